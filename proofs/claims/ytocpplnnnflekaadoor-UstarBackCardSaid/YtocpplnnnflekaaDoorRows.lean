/-
  NARROWER THAN 'FOR EVERY INPUT', by the rows' own cells (each row's printed sentence says how): UstarPuts: laid · UstarGets: laid · UstarBack: laid · UstarOnes: laid · UstarCuts: laid · UstarTurned: laid · UstarJoins: laid.
  DERIVED. THE GIVEN ROWS OF THIS SEAT. 7 by the template 'for every input the law returns true; each argument reads behind the call as it read before'; 0 by the template 'total and deterministic' (their statements: YtocpplnnnflekaaDoorTotals.lean).
  GIVEN WITH THE SEED: the statements are not yours to turn. If you find one false, say at which input.
  Laid BY PROGRAM, IN A SANDBOX (cutbox-rows.mjs): the forced cells as the released guide's own fill.sh prints them over the translation 13462c011f6f9817… (all of the seat's roots in one cut). By AI agents, Wed Nov 11 2026. No macro, syntax, notation, axiom, sorry.
-/
import Derived.Test.YtocpplnnnflekaaDoorChecked
import GoSem.PinnedTables
import GoSem.Claim
import GoSem.ClaimJoined
import GoSem.ClaimMapViews
import Derived.JoinedTies
import Derived.KernelRfl
namespace Go.Proofs.YtocpplnnnflekaaDoor
/- THE CELL 'sum', in the pinned program and in every row, IS THE sha256 OF THE DUMP (.gsa) THAT YtocpplnnnflekaaDoorProg.lean LOADS. Nothing in Lean hashes anything: it is a label: what it is worth is what the hold of that sum in a sandbox is worth. -/
noncomputable def Tryd.pinned : Pinned := { name := "ytocpplnnnflekaadoor", sum := "13462c011f6f98174c25b20008f314b2df2ef9558c7c8457b9d7b3e97d6588e5", checked := Tryd.checked }
namespace Rows
def none {H : Type} : Left H := { results := [], args := [] }

/- WHAT THE LISTED PACKAGE-LEVEL VARIABLES READ AS WHEN THE CALL BEGINS. Each datum BY PROGRAM (the guide's laid-datum.mjs) off the statement by which the dump's own 'gosem.cut.vars' lays the variable. In a bare row this is a premise. The card (YtocpplnnnflekaaDoorCards.lean) ties it to the program's text. -/
def laid_unicode_utf8_acceptRanges {H : Type} : DataW H := .agg [.agg [.lit (.int .u8 128), .lit (.int .u8 191)], .agg [.lit (.int .u8 160), .lit (.int .u8 191)], .agg [.lit (.int .u8 128), .lit (.int .u8 159)], .agg [.lit (.int .u8 144), .lit (.int .u8 191)], .agg [.lit (.int .u8 128), .lit (.int .u8 143)], .agg [.lit (.int .u8 0), .lit (.int .u8 0)], .agg [.lit (.int .u8 0), .lit (.int .u8 0)], .agg [.lit (.int .u8 0), .lit (.int .u8 0)], .agg [.lit (.int .u8 0), .lit (.int .u8 0)], .agg [.lit (.int .u8 0), .lit (.int .u8 0)], .agg [.lit (.int .u8 0), .lit (.int .u8 0)], .agg [.lit (.int .u8 0), .lit (.int .u8 0)], .agg [.lit (.int .u8 0), .lit (.int .u8 0)], .agg [.lit (.int .u8 0), .lit (.int .u8 0)], .agg [.lit (.int .u8 0), .lit (.int .u8 0)], .agg [.lit (.int .u8 0), .lit (.int .u8 0)]]
/-- One of Go's own tables, pinned by name: the form's constant. -/
def laid_unicode_utf8_first : DataW Unit := Go.Pinned.utf8First

/-- 'bindlelaw08.UstarPuts': WHATEVER THE INPUT: true; the input reads as it did. -/
def ustarPutsSpec : ChangeSpec := { name := "ustarPuts", fn := fun _ => fun
  | [d] => { results := [.lit (.bool true)], args := [d] }
  | _ => none }
def ustarPutsRow : OpenClaim := { program := "ytocpplnnnflekaadoor", sum := "13462c011f6f98174c25b20008f314b2df2ef9558c7c8457b9d7b3e97d6588e5", func := "bindle/bindlelaw08.UstarPuts", spec := "ustarPuts", inPlace := ["internal/bytealg.IndexByteString", "internal/bytealg.IndexByte"], unfollowed := true, recurses := true, named := ["unicode/utf8.first", "unicode/utf8.acceptRanges"], apart := false, laid := [("unicode/utf8.acceptRanges", laid_unicode_utf8_acceptRanges), ("unicode/utf8.first", laid_unicode_utf8_first)] }
def UstarPutsSaid : Prop := ustarPutsRow.holds Tryd.pinned (OpenSpec.ofChange ustarPutsSpec)

/-- ITS FALSE NEIGHBOUR: 'it returns false'. Refute it at one input. -/
def ustarPutsWrong : ChangeSpec := { name := "ustarPuts", fn := fun _ => fun
  | [d] => { results := [.lit (.bool false)], args := [d] }
  | _ => none }
def UstarPutsWrongFalsely : Prop := ustarPutsRow.holds Tryd.pinned (OpenSpec.ofChange ustarPutsWrong)

/-- 'bindlelaw08.UstarGets': WHATEVER THE INPUT: true; the input reads as it did. -/
def ustarGetsSpec : ChangeSpec := { name := "ustarGets", fn := fun _ => fun
  | [d] => { results := [.lit (.bool true)], args := [d] }
  | _ => none }
def ustarGetsRow : OpenClaim := { program := "ytocpplnnnflekaadoor", sum := "13462c011f6f98174c25b20008f314b2df2ef9558c7c8457b9d7b3e97d6588e5", func := "bindle/bindlelaw08.UstarGets", spec := "ustarGets", inPlace := ["internal/bytealg.IndexByteString", "internal/bytealg.IndexByte"], unfollowed := true, recurses := true, named := ["unicode/utf8.first", "unicode/utf8.acceptRanges"], apart := false, laid := [("unicode/utf8.acceptRanges", laid_unicode_utf8_acceptRanges), ("unicode/utf8.first", laid_unicode_utf8_first)] }
def UstarGetsSaid : Prop := ustarGetsRow.holds Tryd.pinned (OpenSpec.ofChange ustarGetsSpec)

/-- ITS FALSE NEIGHBOUR: 'it returns false'. Refute it at one input. -/
def ustarGetsWrong : ChangeSpec := { name := "ustarGets", fn := fun _ => fun
  | [d] => { results := [.lit (.bool false)], args := [d] }
  | _ => none }
def UstarGetsWrongFalsely : Prop := ustarGetsRow.holds Tryd.pinned (OpenSpec.ofChange ustarGetsWrong)

/-- 'bindlelaw08.UstarBack': WHATEVER THE INPUT: true; the input reads as it did. -/
def ustarBackSpec : ChangeSpec := { name := "ustarBack", fn := fun _ => fun
  | [d] => { results := [.lit (.bool true)], args := [d] }
  | _ => none }
def ustarBackRow : OpenClaim := { program := "ytocpplnnnflekaadoor", sum := "13462c011f6f98174c25b20008f314b2df2ef9558c7c8457b9d7b3e97d6588e5", func := "bindle/bindlelaw08.UstarBack", spec := "ustarBack", inPlace := ["internal/bytealg.IndexByteString", "internal/bytealg.IndexByte"], unfollowed := true, recurses := true, named := ["unicode/utf8.first", "unicode/utf8.acceptRanges"], apart := false, laid := [("unicode/utf8.acceptRanges", laid_unicode_utf8_acceptRanges), ("unicode/utf8.first", laid_unicode_utf8_first)] }
def UstarBackSaid : Prop := ustarBackRow.holds Tryd.pinned (OpenSpec.ofChange ustarBackSpec)

/-- ITS FALSE NEIGHBOUR: 'it returns false'. Refute it at one input. -/
def ustarBackWrong : ChangeSpec := { name := "ustarBack", fn := fun _ => fun
  | [d] => { results := [.lit (.bool false)], args := [d] }
  | _ => none }
def UstarBackWrongFalsely : Prop := ustarBackRow.holds Tryd.pinned (OpenSpec.ofChange ustarBackWrong)

/-- 'bindlelaw08.UstarOnes': WHATEVER THE INPUT: true; the input reads as it did. -/
def ustarOnesSpec : ChangeSpec := { name := "ustarOnes", fn := fun _ => fun
  | [d] => { results := [.lit (.bool true)], args := [d] }
  | _ => none }
def ustarOnesRow : OpenClaim := { program := "ytocpplnnnflekaadoor", sum := "13462c011f6f98174c25b20008f314b2df2ef9558c7c8457b9d7b3e97d6588e5", func := "bindle/bindlelaw08.UstarOnes", spec := "ustarOnes", inPlace := ["internal/bytealg.IndexByteString", "internal/bytealg.IndexByte"], unfollowed := true, recurses := true, named := ["unicode/utf8.first", "unicode/utf8.acceptRanges"], apart := false, laid := [("unicode/utf8.acceptRanges", laid_unicode_utf8_acceptRanges), ("unicode/utf8.first", laid_unicode_utf8_first)] }
def UstarOnesSaid : Prop := ustarOnesRow.holds Tryd.pinned (OpenSpec.ofChange ustarOnesSpec)

/-- ITS FALSE NEIGHBOUR: 'it returns false'. Refute it at one input. -/
def ustarOnesWrong : ChangeSpec := { name := "ustarOnes", fn := fun _ => fun
  | [d] => { results := [.lit (.bool false)], args := [d] }
  | _ => none }
def UstarOnesWrongFalsely : Prop := ustarOnesRow.holds Tryd.pinned (OpenSpec.ofChange ustarOnesWrong)

/-- 'bindlelaw08.UstarCuts': WHATEVER THE INPUT: true; the input reads as it did. -/
def ustarCutsSpec : ChangeSpec := { name := "ustarCuts", fn := fun _ => fun
  | [d1, d2, d3] => { results := [.lit (.bool true)], args := [d1, d2, d3] }
  | _ => none }
def ustarCutsRow : OpenClaim := { program := "ytocpplnnnflekaadoor", sum := "13462c011f6f98174c25b20008f314b2df2ef9558c7c8457b9d7b3e97d6588e5", func := "bindle/bindlelaw08.UstarCuts", spec := "ustarCuts", inPlace := ["internal/bytealg.IndexByteString", "internal/bytealg.IndexByte"], unfollowed := true, recurses := true, named := ["unicode/utf8.first", "unicode/utf8.acceptRanges"], apart := false, laid := [("unicode/utf8.acceptRanges", laid_unicode_utf8_acceptRanges), ("unicode/utf8.first", laid_unicode_utf8_first)] }
def UstarCutsSaid : Prop := ustarCutsRow.holds Tryd.pinned (OpenSpec.ofChange ustarCutsSpec)

/-- ITS FALSE NEIGHBOUR: 'it returns false'. Refute it at one input. -/
def ustarCutsWrong : ChangeSpec := { name := "ustarCuts", fn := fun _ => fun
  | [d1, d2, d3] => { results := [.lit (.bool false)], args := [d1, d2, d3] }
  | _ => none }
def UstarCutsWrongFalsely : Prop := ustarCutsRow.holds Tryd.pinned (OpenSpec.ofChange ustarCutsWrong)

/-- 'bindlelaw08.UstarTurned': WHATEVER THE INPUT: true; the input reads as it did. -/
def ustarTurnedSpec : ChangeSpec := { name := "ustarTurned", fn := fun _ => fun
  | [d1, d2, d3] => { results := [.lit (.bool true)], args := [d1, d2, d3] }
  | _ => none }
def ustarTurnedRow : OpenClaim := { program := "ytocpplnnnflekaadoor", sum := "13462c011f6f98174c25b20008f314b2df2ef9558c7c8457b9d7b3e97d6588e5", func := "bindle/bindlelaw08.UstarTurned", spec := "ustarTurned", inPlace := ["internal/bytealg.IndexByteString", "internal/bytealg.IndexByte"], unfollowed := true, recurses := true, named := ["unicode/utf8.first", "unicode/utf8.acceptRanges"], apart := false, laid := [("unicode/utf8.acceptRanges", laid_unicode_utf8_acceptRanges), ("unicode/utf8.first", laid_unicode_utf8_first)] }
def UstarTurnedSaid : Prop := ustarTurnedRow.holds Tryd.pinned (OpenSpec.ofChange ustarTurnedSpec)

/-- ITS FALSE NEIGHBOUR: 'it returns false'. Refute it at one input. -/
def ustarTurnedWrong : ChangeSpec := { name := "ustarTurned", fn := fun _ => fun
  | [d1, d2, d3] => { results := [.lit (.bool false)], args := [d1, d2, d3] }
  | _ => none }
def UstarTurnedWrongFalsely : Prop := ustarTurnedRow.holds Tryd.pinned (OpenSpec.ofChange ustarTurnedWrong)

/-- 'bindlelaw08.UstarJoins': WHATEVER THE INPUT: true; the input reads as it did. -/
def ustarJoinsSpec : ChangeSpec := { name := "ustarJoins", fn := fun _ => fun
  | [d1, d2] => { results := [.lit (.bool true)], args := [d1, d2] }
  | _ => none }
def ustarJoinsRow : OpenClaim := { program := "ytocpplnnnflekaadoor", sum := "13462c011f6f98174c25b20008f314b2df2ef9558c7c8457b9d7b3e97d6588e5", func := "bindle/bindlelaw08.UstarJoins", spec := "ustarJoins", inPlace := ["internal/bytealg.IndexByteString", "internal/bytealg.IndexByte"], unfollowed := true, recurses := true, named := ["unicode/utf8.first", "unicode/utf8.acceptRanges"], apart := false, laid := [("unicode/utf8.acceptRanges", laid_unicode_utf8_acceptRanges), ("unicode/utf8.first", laid_unicode_utf8_first)] }
def UstarJoinsSaid : Prop := ustarJoinsRow.holds Tryd.pinned (OpenSpec.ofChange ustarJoinsSpec)

/-- ITS FALSE NEIGHBOUR: 'it returns false'. Refute it at one input. -/
def ustarJoinsWrong : ChangeSpec := { name := "ustarJoins", fn := fun _ => fun
  | [d1, d2] => { results := [.lit (.bool false)], args := [d1, d2] }
  | _ => none }
def UstarJoinsWrongFalsely : Prop := ustarJoinsRow.holds Tryd.pinned (OpenSpec.ofChange ustarJoinsWrong)

/- THE SECOND FORM. 'bulk': how many values and letters a reading holds, each counted each time it is reached (what is shared counts as often as it is met; a slice's spare places count too). A statement '..UptoSaid' is the law's where the arguments, and the package variables that the reading takes, are together of bulk at most 1048576: NARROWER than '..Said'. Prove '..Said' where nothing that the law and all that it calls make is longer than what came in: it says more and counts as full. Else prove '..UptoSaid'. A law counts once. -/
mutual
def uptoBulk {H : Type} : DataW H → Nat
  | .lit (.string bytes) => bytes.length + 1
  | .lit _ => 1
  | .nil => 1
  | .ptr d => uptoBulk d + 1
  | .slice elems spare => uptoBulkAll elems + uptoBulkAll spare + 1
  | .agg parts => uptoBulkAll parts + 1
  | .iface _ d => uptoBulk d + 1
  | .map entries => uptoBulkEntries entries + 1
  | .held _ => 1
def uptoBulkAll {H : Type} : List (DataW H) → Nat
  | [] => 0
  | d :: r => uptoBulk d + uptoBulkAll r
def uptoBulkEntries {H : Type} : List (Lit × DataW H) → Nat
  | [] => 0
  | x :: r => uptoBulkEntry x + uptoBulkEntries r
def uptoBulkEntry {H : Type} : Lit × DataW H → Nat
  | (.string bytes, d) => bytes.length + uptoBulk d + 1
  | (_, d) => uptoBulk d + 1
 end
def uptoSmall : (H : Type) → List (DataW H) → Bool := fun _ ds => decide (uptoBulkAll ds ≤ 1048576)
def OpenSpec.upto (s : _root_.Go.ChangeSpec) : _root_.Go.OpenSpec := { _root_.Go.OpenSpec.ofChange s with cond := some uptoSmall }

/-- 'bindlelaw08.UstarPuts', WHERE WHAT IT READS IS OF BULK AT MOST 1048576: true; the input reads as it did. -/
def ustarPutsUptoRow : OpenClaim := { program := "ytocpplnnnflekaadoor", sum := "13462c011f6f98174c25b20008f314b2df2ef9558c7c8457b9d7b3e97d6588e5", func := "bindle/bindlelaw08.UstarPuts", spec := "ustarPuts", inPlace := ["internal/bytealg.IndexByteString", "internal/bytealg.IndexByte"], unfollowed := true, recurses := true, named := ["unicode/utf8.first", "unicode/utf8.acceptRanges"], apart := false, laid := [("unicode/utf8.acceptRanges", laid_unicode_utf8_acceptRanges), ("unicode/utf8.first", laid_unicode_utf8_first)], narrowed := true }
def UstarPutsUptoSaid : Prop := ustarPutsUptoRow.holds Tryd.pinned (OpenSpec.upto ustarPutsSpec)

/-- 'bindlelaw08.UstarGets', WHERE WHAT IT READS IS OF BULK AT MOST 1048576: true; the input reads as it did. -/
def ustarGetsUptoRow : OpenClaim := { program := "ytocpplnnnflekaadoor", sum := "13462c011f6f98174c25b20008f314b2df2ef9558c7c8457b9d7b3e97d6588e5", func := "bindle/bindlelaw08.UstarGets", spec := "ustarGets", inPlace := ["internal/bytealg.IndexByteString", "internal/bytealg.IndexByte"], unfollowed := true, recurses := true, named := ["unicode/utf8.first", "unicode/utf8.acceptRanges"], apart := false, laid := [("unicode/utf8.acceptRanges", laid_unicode_utf8_acceptRanges), ("unicode/utf8.first", laid_unicode_utf8_first)], narrowed := true }
def UstarGetsUptoSaid : Prop := ustarGetsUptoRow.holds Tryd.pinned (OpenSpec.upto ustarGetsSpec)

/-- 'bindlelaw08.UstarBack', WHERE WHAT IT READS IS OF BULK AT MOST 1048576: true; the input reads as it did. -/
def ustarBackUptoRow : OpenClaim := { program := "ytocpplnnnflekaadoor", sum := "13462c011f6f98174c25b20008f314b2df2ef9558c7c8457b9d7b3e97d6588e5", func := "bindle/bindlelaw08.UstarBack", spec := "ustarBack", inPlace := ["internal/bytealg.IndexByteString", "internal/bytealg.IndexByte"], unfollowed := true, recurses := true, named := ["unicode/utf8.first", "unicode/utf8.acceptRanges"], apart := false, laid := [("unicode/utf8.acceptRanges", laid_unicode_utf8_acceptRanges), ("unicode/utf8.first", laid_unicode_utf8_first)], narrowed := true }
def UstarBackUptoSaid : Prop := ustarBackUptoRow.holds Tryd.pinned (OpenSpec.upto ustarBackSpec)

/-- 'bindlelaw08.UstarOnes', WHERE WHAT IT READS IS OF BULK AT MOST 1048576: true; the input reads as it did. -/
def ustarOnesUptoRow : OpenClaim := { program := "ytocpplnnnflekaadoor", sum := "13462c011f6f98174c25b20008f314b2df2ef9558c7c8457b9d7b3e97d6588e5", func := "bindle/bindlelaw08.UstarOnes", spec := "ustarOnes", inPlace := ["internal/bytealg.IndexByteString", "internal/bytealg.IndexByte"], unfollowed := true, recurses := true, named := ["unicode/utf8.first", "unicode/utf8.acceptRanges"], apart := false, laid := [("unicode/utf8.acceptRanges", laid_unicode_utf8_acceptRanges), ("unicode/utf8.first", laid_unicode_utf8_first)], narrowed := true }
def UstarOnesUptoSaid : Prop := ustarOnesUptoRow.holds Tryd.pinned (OpenSpec.upto ustarOnesSpec)

/-- 'bindlelaw08.UstarCuts', WHERE WHAT IT READS IS OF BULK AT MOST 1048576: true; the input reads as it did. -/
def ustarCutsUptoRow : OpenClaim := { program := "ytocpplnnnflekaadoor", sum := "13462c011f6f98174c25b20008f314b2df2ef9558c7c8457b9d7b3e97d6588e5", func := "bindle/bindlelaw08.UstarCuts", spec := "ustarCuts", inPlace := ["internal/bytealg.IndexByteString", "internal/bytealg.IndexByte"], unfollowed := true, recurses := true, named := ["unicode/utf8.first", "unicode/utf8.acceptRanges"], apart := false, laid := [("unicode/utf8.acceptRanges", laid_unicode_utf8_acceptRanges), ("unicode/utf8.first", laid_unicode_utf8_first)], narrowed := true }
def UstarCutsUptoSaid : Prop := ustarCutsUptoRow.holds Tryd.pinned (OpenSpec.upto ustarCutsSpec)

/-- 'bindlelaw08.UstarTurned', WHERE WHAT IT READS IS OF BULK AT MOST 1048576: true; the input reads as it did. -/
def ustarTurnedUptoRow : OpenClaim := { program := "ytocpplnnnflekaadoor", sum := "13462c011f6f98174c25b20008f314b2df2ef9558c7c8457b9d7b3e97d6588e5", func := "bindle/bindlelaw08.UstarTurned", spec := "ustarTurned", inPlace := ["internal/bytealg.IndexByteString", "internal/bytealg.IndexByte"], unfollowed := true, recurses := true, named := ["unicode/utf8.first", "unicode/utf8.acceptRanges"], apart := false, laid := [("unicode/utf8.acceptRanges", laid_unicode_utf8_acceptRanges), ("unicode/utf8.first", laid_unicode_utf8_first)], narrowed := true }
def UstarTurnedUptoSaid : Prop := ustarTurnedUptoRow.holds Tryd.pinned (OpenSpec.upto ustarTurnedSpec)

/-- 'bindlelaw08.UstarJoins', WHERE WHAT IT READS IS OF BULK AT MOST 1048576: true; the input reads as it did. -/
def ustarJoinsUptoRow : OpenClaim := { program := "ytocpplnnnflekaadoor", sum := "13462c011f6f98174c25b20008f314b2df2ef9558c7c8457b9d7b3e97d6588e5", func := "bindle/bindlelaw08.UstarJoins", spec := "ustarJoins", inPlace := ["internal/bytealg.IndexByteString", "internal/bytealg.IndexByte"], unfollowed := true, recurses := true, named := ["unicode/utf8.first", "unicode/utf8.acceptRanges"], apart := false, laid := [("unicode/utf8.acceptRanges", laid_unicode_utf8_acceptRanges), ("unicode/utf8.first", laid_unicode_utf8_first)], narrowed := true }
def UstarJoinsUptoSaid : Prop := ustarJoinsUptoRow.holds Tryd.pinned (OpenSpec.upto ustarJoinsSpec)

end Rows
end Go.Proofs.YtocpplnnnflekaaDoor
