/-
  No cell of these rows narrows 'for every input' (looked for: loops, veiled, ifaces, maps, wideKeys, modest, calm, conditions, laid).
  DERIVED. THE GIVEN ROWS OF THIS SEAT. 4 by the template 'for every input the law returns true; each argument reads behind the call as it read before'; 0 by the template 'total and deterministic' (their statements: YtblmmpgainogbaaTotals.lean).
  GIVEN WITH THE SEED: the statements are not yours to turn. If you find one false, say at which input.
  Laid BY PROGRAM, IN A SANDBOX (cutbox-rows.mjs): the forced cells as the released guide's own fill.sh prints them over the translation 8f97d7474428e838… (all of the seat's roots in one cut). By AI agents, Wed Nov 11 2026. No macro, syntax, notation, axiom, sorry.
-/
import Derived.Test.YtblmmpgainogbaaChecked
import GoSem.Claim
import GoSem.ClaimJoined
import GoSem.ClaimMapViews
import Derived.JoinedTies
import Derived.KernelRfl
namespace Go.Proofs.Ytblmmpgainogbaa
/- THE CELL 'sum', in the pinned program and in every row, IS THE sha256 OF THE DUMP (.gsa) THAT YtblmmpgainogbaaProg.lean LOADS. Nothing in Lean hashes anything: it is a label: what it is worth is what the hold of that sum in a sandbox is worth. -/
noncomputable def Try.pinned : Pinned := { name := "ytblmmpgainogbaa", sum := "8f97d7474428e8389ba75b803a5e56e6420e218f5122ea7125e3c91815823d71", checked := Try.checked }
namespace Rows
def none {H : Type} : Left H := { results := [], args := [] }

/-- 'bindlelaw02.BlockSchedules': WHATEVER THE INPUT: true; the input reads as it did. -/
def blockSchedulesSpec : ChangeSpec := { name := "blockSchedules", fn := fun _ => fun
  | [d] => { results := [.lit (.bool true)], args := [d] }
  | _ => none }
def blockSchedulesRow : OpenClaim := { program := "ytblmmpgainogbaa", sum := "8f97d7474428e8389ba75b803a5e56e6420e218f5122ea7125e3c91815823d71", func := "bindle/bindlelaw02.BlockSchedules", spec := "blockSchedules", apart := false }
def BlockSchedulesSaid : Prop := blockSchedulesRow.holds Try.pinned (OpenSpec.ofChange blockSchedulesSpec)

/-- ITS FALSE NEIGHBOUR: 'it returns false'. Refute it at one input. -/
def blockSchedulesWrong : ChangeSpec := { name := "blockSchedules", fn := fun _ => fun
  | [d] => { results := [.lit (.bool false)], args := [d] }
  | _ => none }
def BlockSchedulesWrongFalsely : Prop := blockSchedulesRow.holds Try.pinned (OpenSpec.ofChange blockSchedulesWrong)

/-- 'bindlelaw02.BlockRounds': WHATEVER THE INPUT: true; the input reads as it did. -/
def blockRoundsSpec : ChangeSpec := { name := "blockRounds", fn := fun _ => fun
  | [d1, d2, d3] => { results := [.lit (.bool true)], args := [d1, d2, d3] }
  | _ => none }
def blockRoundsRow : OpenClaim := { program := "ytblmmpgainogbaa", sum := "8f97d7474428e8389ba75b803a5e56e6420e218f5122ea7125e3c91815823d71", func := "bindle/bindlelaw02.BlockRounds", spec := "blockRounds", apart := false }
def BlockRoundsSaid : Prop := blockRoundsRow.holds Try.pinned (OpenSpec.ofChange blockRoundsSpec)

/-- ITS FALSE NEIGHBOUR: 'it returns false'. Refute it at one input. -/
def blockRoundsWrong : ChangeSpec := { name := "blockRounds", fn := fun _ => fun
  | [d1, d2, d3] => { results := [.lit (.bool false)], args := [d1, d2, d3] }
  | _ => none }
def BlockRoundsWrongFalsely : Prop := blockRoundsRow.holds Try.pinned (OpenSpec.ofChange blockRoundsWrong)

/-- 'bindlelaw02.BlockUndone': WHATEVER THE INPUT: true; the input reads as it did. -/
def blockUndoneSpec : ChangeSpec := { name := "blockUndone", fn := fun _ => fun
  | [d1, d2, d3] => { results := [.lit (.bool true)], args := [d1, d2, d3] }
  | _ => none }
def blockUndoneRow : OpenClaim := { program := "ytblmmpgainogbaa", sum := "8f97d7474428e8389ba75b803a5e56e6420e218f5122ea7125e3c91815823d71", func := "bindle/bindlelaw02.BlockUndone", spec := "blockUndone", apart := false }
def BlockUndoneSaid : Prop := blockUndoneRow.holds Try.pinned (OpenSpec.ofChange blockUndoneSpec)

/-- ITS FALSE NEIGHBOUR: 'it returns false'. Refute it at one input. -/
def blockUndoneWrong : ChangeSpec := { name := "blockUndone", fn := fun _ => fun
  | [d1, d2, d3] => { results := [.lit (.bool false)], args := [d1, d2, d3] }
  | _ => none }
def BlockUndoneWrongFalsely : Prop := blockUndoneRow.holds Try.pinned (OpenSpec.ofChange blockUndoneWrong)

/-- 'bindlelaw02.BlockWords': WHATEVER THE INPUT: true; the input reads as it did. -/
def blockWordsSpec : ChangeSpec := { name := "blockWords", fn := fun _ => fun
  | [d1, d2] => { results := [.lit (.bool true)], args := [d1, d2] }
  | _ => none }
def blockWordsRow : OpenClaim := { program := "ytblmmpgainogbaa", sum := "8f97d7474428e8389ba75b803a5e56e6420e218f5122ea7125e3c91815823d71", func := "bindle/bindlelaw02.BlockWords", spec := "blockWords", apart := false }
def BlockWordsSaid : Prop := blockWordsRow.holds Try.pinned (OpenSpec.ofChange blockWordsSpec)

/-- ITS FALSE NEIGHBOUR: 'it returns false'. Refute it at one input. -/
def blockWordsWrong : ChangeSpec := { name := "blockWords", fn := fun _ => fun
  | [d1, d2] => { results := [.lit (.bool false)], args := [d1, d2] }
  | _ => none }
def BlockWordsWrongFalsely : Prop := blockWordsRow.holds Try.pinned (OpenSpec.ofChange blockWordsWrong)

/- THE SECOND FORM. 'bulk': how many values and letters a reading holds, each counted each time it is reached (what is shared counts as often as it is met; a slice's spare places count too). A statement '..UptoSaid' is the law's where the arguments, and the package variables that the reading takes, are together of bulk at most 1048576: NARROWER than '..Said'. Prove '..Said' where nothing that the law and all that it calls make is longer than what came in: it says more and counts as full. Else prove '..UptoSaid'. A law counts once. -/
mutual
def uptoBulk {H : Type} : DataW H → Nat
  | .lit (.string bytes) => bytes.length + 1
  | .lit _ => 1
  | .nil => 1
  | .ptr d => uptoBulk d + 1
  | .slice elems spare => uptoBulkAll elems + uptoBulkAll spare + 1
  | .agg parts => uptoBulkAll parts + 1
  | .iface _ d => uptoBulk d + 1
  | .map entries => uptoBulkEntries entries + 1
  | .held _ => 1
def uptoBulkAll {H : Type} : List (DataW H) → Nat
  | [] => 0
  | d :: r => uptoBulk d + uptoBulkAll r
def uptoBulkEntries {H : Type} : List (Lit × DataW H) → Nat
  | [] => 0
  | x :: r => uptoBulkEntry x + uptoBulkEntries r
def uptoBulkEntry {H : Type} : Lit × DataW H → Nat
  | (.string bytes, d) => bytes.length + uptoBulk d + 1
  | (_, d) => uptoBulk d + 1
 end
def uptoSmall : (H : Type) → List (DataW H) → Bool := fun _ ds => decide (uptoBulkAll ds ≤ 1048576)
def OpenSpec.upto (s : _root_.Go.ChangeSpec) : _root_.Go.OpenSpec := { _root_.Go.OpenSpec.ofChange s with cond := some uptoSmall }

/-- 'bindlelaw02.BlockSchedules', WHERE WHAT IT READS IS OF BULK AT MOST 1048576: true; the input reads as it did. -/
def blockSchedulesUptoRow : OpenClaim := { program := "ytblmmpgainogbaa", sum := "8f97d7474428e8389ba75b803a5e56e6420e218f5122ea7125e3c91815823d71", func := "bindle/bindlelaw02.BlockSchedules", spec := "blockSchedules", apart := false, narrowed := true }
def BlockSchedulesUptoSaid : Prop := blockSchedulesUptoRow.holds Try.pinned (OpenSpec.upto blockSchedulesSpec)

/-- 'bindlelaw02.BlockRounds', WHERE WHAT IT READS IS OF BULK AT MOST 1048576: true; the input reads as it did. -/
def blockRoundsUptoRow : OpenClaim := { program := "ytblmmpgainogbaa", sum := "8f97d7474428e8389ba75b803a5e56e6420e218f5122ea7125e3c91815823d71", func := "bindle/bindlelaw02.BlockRounds", spec := "blockRounds", apart := false, narrowed := true }
def BlockRoundsUptoSaid : Prop := blockRoundsUptoRow.holds Try.pinned (OpenSpec.upto blockRoundsSpec)

/-- 'bindlelaw02.BlockUndone', WHERE WHAT IT READS IS OF BULK AT MOST 1048576: true; the input reads as it did. -/
def blockUndoneUptoRow : OpenClaim := { program := "ytblmmpgainogbaa", sum := "8f97d7474428e8389ba75b803a5e56e6420e218f5122ea7125e3c91815823d71", func := "bindle/bindlelaw02.BlockUndone", spec := "blockUndone", apart := false, narrowed := true }
def BlockUndoneUptoSaid : Prop := blockUndoneUptoRow.holds Try.pinned (OpenSpec.upto blockUndoneSpec)

/-- 'bindlelaw02.BlockWords', WHERE WHAT IT READS IS OF BULK AT MOST 1048576: true; the input reads as it did. -/
def blockWordsUptoRow : OpenClaim := { program := "ytblmmpgainogbaa", sum := "8f97d7474428e8389ba75b803a5e56e6420e218f5122ea7125e3c91815823d71", func := "bindle/bindlelaw02.BlockWords", spec := "blockWords", apart := false, narrowed := true }
def BlockWordsUptoSaid : Prop := blockWordsUptoRow.holds Try.pinned (OpenSpec.upto blockWordsSpec)

end Rows
end Go.Proofs.Ytblmmpgainogbaa
