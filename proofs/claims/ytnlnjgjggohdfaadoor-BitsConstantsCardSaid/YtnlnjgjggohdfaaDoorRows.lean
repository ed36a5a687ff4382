/-
  NARROWER THAN 'FOR EVERY INPUT', by the rows' own cells (each row's printed sentence says how): BitsTurns: laid · BitsSigmas: laid · BitsConstants: laid · BitsAdds: laid · BitsBack: laid · BitsChoice: laid.
  DERIVED. THE GIVEN ROWS OF THIS SEAT. 6 by the template 'for every input the law returns true; each argument reads behind the call as it read before'; 0 by the template 'total and deterministic' (their statements: YtnlnjgjggohdfaaDoorTotals.lean).
  GIVEN WITH THE SEED: the statements are not yours to turn. If you find one false, say at which input.
  Laid BY PROGRAM, IN A SANDBOX (cutbox-rows.mjs): the forced cells as the released guide's own fill.sh prints them over the translation d739d24116d4369e… (all of the seat's roots in one cut). By AI agents, Wed Nov 11 2026. No macro, syntax, notation, axiom, sorry.
-/
import Derived.Test.YtnlnjgjggohdfaaDoorChecked
import GoSem.Claim
import GoSem.ClaimJoined
import GoSem.ClaimMapViews
import Derived.JoinedTies
import Derived.KernelRfl
namespace Go.Proofs.YtnlnjgjggohdfaaDoor
/- THE CELL 'sum', in the pinned program and in every row, IS THE sha256 OF THE DUMP (.gsa) THAT YtnlnjgjggohdfaaDoorProg.lean LOADS. Nothing in Lean hashes anything: it is a label: what it is worth is what the hold of that sum in a sandbox is worth. -/
noncomputable def Tryd.pinned : Pinned := { name := "ytnlnjgjggohdfaadoor", sum := "d739d24116d4369e46d08abb8b92b72e23687aec9758339b157305a77cf46905", checked := Tryd.checked }
namespace Rows
def none {H : Type} : Left H := { results := [], args := [] }

/- WHAT THE LISTED PACKAGE-LEVEL VARIABLES READ AS WHEN THE CALL BEGINS. Each datum BY PROGRAM (the guide's laid-datum.mjs) off the statement by which the dump's own 'gosem.cut.vars' lays the variable. In a bare row this is a premise. The card (YtnlnjgjggohdfaaDoorCards.lean) ties it to the program's text. -/
def laid_bindle_bits_cubeRoots {H : Type} : DataW H := .agg [.lit (.int .u32 1116352408), .lit (.int .u32 1899447441), .lit (.int .u32 3049323471), .lit (.int .u32 3921009573), .lit (.int .u32 961987163), .lit (.int .u32 1508970993), .lit (.int .u32 2453635748), .lit (.int .u32 2870763221), .lit (.int .u32 3624381080), .lit (.int .u32 310598401), .lit (.int .u32 607225278), .lit (.int .u32 1426881987), .lit (.int .u32 1925078388), .lit (.int .u32 2162078206), .lit (.int .u32 2614888103), .lit (.int .u32 3248222580), .lit (.int .u32 3835390401), .lit (.int .u32 4022224774), .lit (.int .u32 264347078), .lit (.int .u32 604807628), .lit (.int .u32 770255983), .lit (.int .u32 1249150122), .lit (.int .u32 1555081692), .lit (.int .u32 1996064986), .lit (.int .u32 2554220882), .lit (.int .u32 2821834349), .lit (.int .u32 2952996808), .lit (.int .u32 3210313671), .lit (.int .u32 3336571891), .lit (.int .u32 3584528711), .lit (.int .u32 113926993), .lit (.int .u32 338241895), .lit (.int .u32 666307205), .lit (.int .u32 773529912), .lit (.int .u32 1294757372), .lit (.int .u32 1396182291), .lit (.int .u32 1695183700), .lit (.int .u32 1986661051), .lit (.int .u32 2177026350), .lit (.int .u32 2456956037), .lit (.int .u32 2730485921), .lit (.int .u32 2820302411), .lit (.int .u32 3259730800), .lit (.int .u32 3345764771), .lit (.int .u32 3516065817), .lit (.int .u32 3600352804), .lit (.int .u32 4094571909), .lit (.int .u32 275423344), .lit (.int .u32 430227734), .lit (.int .u32 506948616), .lit (.int .u32 659060556), .lit (.int .u32 883997877), .lit (.int .u32 958139571), .lit (.int .u32 1322822218), .lit (.int .u32 1537002063), .lit (.int .u32 1747873779), .lit (.int .u32 1955562222), .lit (.int .u32 2024104815), .lit (.int .u32 2227730452), .lit (.int .u32 2361852424), .lit (.int .u32 2428436474), .lit (.int .u32 2756734187), .lit (.int .u32 3204031479), .lit (.int .u32 3329325298)]

/-- 'bindlelaw01.BitsTurns': WHATEVER THE INPUT: true; the input reads as it did. -/
def bitsTurnsSpec : ChangeSpec := { name := "bitsTurns", fn := fun _ => fun
  | [d1, d2] => { results := [.lit (.bool true)], args := [d1, d2] }
  | _ => none }
def bitsTurnsRow : OpenClaim := { program := "ytnlnjgjggohdfaadoor", sum := "d739d24116d4369e46d08abb8b92b72e23687aec9758339b157305a77cf46905", func := "bindle/bindlelaw01.BitsTurns", spec := "bitsTurns", named := ["bindle/bits.cubeRoots"], apart := false, laid := [("bindle/bits.cubeRoots", laid_bindle_bits_cubeRoots)] }
def BitsTurnsSaid : Prop := bitsTurnsRow.holds Tryd.pinned (OpenSpec.ofChange bitsTurnsSpec)

/-- ITS FALSE NEIGHBOUR: 'it returns false'. Refute it at one input. -/
def bitsTurnsWrong : ChangeSpec := { name := "bitsTurns", fn := fun _ => fun
  | [d1, d2] => { results := [.lit (.bool false)], args := [d1, d2] }
  | _ => none }
def BitsTurnsWrongFalsely : Prop := bitsTurnsRow.holds Tryd.pinned (OpenSpec.ofChange bitsTurnsWrong)

/-- 'bindlelaw01.BitsSigmas': WHATEVER THE INPUT: true; the input reads as it did. -/
def bitsSigmasSpec : ChangeSpec := { name := "bitsSigmas", fn := fun _ => fun
  | [d] => { results := [.lit (.bool true)], args := [d] }
  | _ => none }
def bitsSigmasRow : OpenClaim := { program := "ytnlnjgjggohdfaadoor", sum := "d739d24116d4369e46d08abb8b92b72e23687aec9758339b157305a77cf46905", func := "bindle/bindlelaw01.BitsSigmas", spec := "bitsSigmas", named := ["bindle/bits.cubeRoots"], apart := false, laid := [("bindle/bits.cubeRoots", laid_bindle_bits_cubeRoots)] }
def BitsSigmasSaid : Prop := bitsSigmasRow.holds Tryd.pinned (OpenSpec.ofChange bitsSigmasSpec)

/-- ITS FALSE NEIGHBOUR: 'it returns false'. Refute it at one input. -/
def bitsSigmasWrong : ChangeSpec := { name := "bitsSigmas", fn := fun _ => fun
  | [d] => { results := [.lit (.bool false)], args := [d] }
  | _ => none }
def BitsSigmasWrongFalsely : Prop := bitsSigmasRow.holds Tryd.pinned (OpenSpec.ofChange bitsSigmasWrong)

/-- 'bindlelaw01.BitsConstants': WHATEVER THE INPUT: true; the input reads as it did. -/
def bitsConstantsSpec : ChangeSpec := { name := "bitsConstants", fn := fun _ => fun
  | [d] => { results := [.lit (.bool true)], args := [d] }
  | _ => none }
def bitsConstantsRow : OpenClaim := { program := "ytnlnjgjggohdfaadoor", sum := "d739d24116d4369e46d08abb8b92b72e23687aec9758339b157305a77cf46905", func := "bindle/bindlelaw01.BitsConstants", spec := "bitsConstants", named := ["bindle/bits.cubeRoots"], apart := false, laid := [("bindle/bits.cubeRoots", laid_bindle_bits_cubeRoots)] }
def BitsConstantsSaid : Prop := bitsConstantsRow.holds Tryd.pinned (OpenSpec.ofChange bitsConstantsSpec)

/-- ITS FALSE NEIGHBOUR: 'it returns false'. Refute it at one input. -/
def bitsConstantsWrong : ChangeSpec := { name := "bitsConstants", fn := fun _ => fun
  | [d] => { results := [.lit (.bool false)], args := [d] }
  | _ => none }
def BitsConstantsWrongFalsely : Prop := bitsConstantsRow.holds Tryd.pinned (OpenSpec.ofChange bitsConstantsWrong)

/-- 'bindlelaw01.BitsAdds': WHATEVER THE INPUT: true; the input reads as it did. -/
def bitsAddsSpec : ChangeSpec := { name := "bitsAdds", fn := fun _ => fun
  | [d1, d2] => { results := [.lit (.bool true)], args := [d1, d2] }
  | _ => none }
def bitsAddsRow : OpenClaim := { program := "ytnlnjgjggohdfaadoor", sum := "d739d24116d4369e46d08abb8b92b72e23687aec9758339b157305a77cf46905", func := "bindle/bindlelaw01.BitsAdds", spec := "bitsAdds", named := ["bindle/bits.cubeRoots"], apart := false, laid := [("bindle/bits.cubeRoots", laid_bindle_bits_cubeRoots)] }
def BitsAddsSaid : Prop := bitsAddsRow.holds Tryd.pinned (OpenSpec.ofChange bitsAddsSpec)

/-- ITS FALSE NEIGHBOUR: 'it returns false'. Refute it at one input. -/
def bitsAddsWrong : ChangeSpec := { name := "bitsAdds", fn := fun _ => fun
  | [d1, d2] => { results := [.lit (.bool false)], args := [d1, d2] }
  | _ => none }
def BitsAddsWrongFalsely : Prop := bitsAddsRow.holds Tryd.pinned (OpenSpec.ofChange bitsAddsWrong)

/-- 'bindlelaw01.BitsBack': WHATEVER THE INPUT: true; the input reads as it did. -/
def bitsBackSpec : ChangeSpec := { name := "bitsBack", fn := fun _ => fun
  | [d1, d2, d3] => { results := [.lit (.bool true)], args := [d1, d2, d3] }
  | _ => none }
def bitsBackRow : OpenClaim := { program := "ytnlnjgjggohdfaadoor", sum := "d739d24116d4369e46d08abb8b92b72e23687aec9758339b157305a77cf46905", func := "bindle/bindlelaw01.BitsBack", spec := "bitsBack", named := ["bindle/bits.cubeRoots"], apart := false, laid := [("bindle/bits.cubeRoots", laid_bindle_bits_cubeRoots)] }
def BitsBackSaid : Prop := bitsBackRow.holds Tryd.pinned (OpenSpec.ofChange bitsBackSpec)

/-- ITS FALSE NEIGHBOUR: 'it returns false'. Refute it at one input. -/
def bitsBackWrong : ChangeSpec := { name := "bitsBack", fn := fun _ => fun
  | [d1, d2, d3] => { results := [.lit (.bool false)], args := [d1, d2, d3] }
  | _ => none }
def BitsBackWrongFalsely : Prop := bitsBackRow.holds Tryd.pinned (OpenSpec.ofChange bitsBackWrong)

/-- 'bindlelaw01.BitsChoice': WHATEVER THE INPUT: true; the input reads as it did. -/
def bitsChoiceSpec : ChangeSpec := { name := "bitsChoice", fn := fun _ => fun
  | [d1, d2, d3] => { results := [.lit (.bool true)], args := [d1, d2, d3] }
  | _ => none }
def bitsChoiceRow : OpenClaim := { program := "ytnlnjgjggohdfaadoor", sum := "d739d24116d4369e46d08abb8b92b72e23687aec9758339b157305a77cf46905", func := "bindle/bindlelaw01.BitsChoice", spec := "bitsChoice", named := ["bindle/bits.cubeRoots"], apart := false, laid := [("bindle/bits.cubeRoots", laid_bindle_bits_cubeRoots)] }
def BitsChoiceSaid : Prop := bitsChoiceRow.holds Tryd.pinned (OpenSpec.ofChange bitsChoiceSpec)

/-- ITS FALSE NEIGHBOUR: 'it returns false'. Refute it at one input. -/
def bitsChoiceWrong : ChangeSpec := { name := "bitsChoice", fn := fun _ => fun
  | [d1, d2, d3] => { results := [.lit (.bool false)], args := [d1, d2, d3] }
  | _ => none }
def BitsChoiceWrongFalsely : Prop := bitsChoiceRow.holds Tryd.pinned (OpenSpec.ofChange bitsChoiceWrong)

/- THE SECOND FORM. 'bulk': how many values and letters a reading holds, each counted each time it is reached (what is shared counts as often as it is met; a slice's spare places count too). A statement '..UptoSaid' is the law's where the arguments, and the package variables that the reading takes, are together of bulk at most 1048576: NARROWER than '..Said'. Prove '..Said' where nothing that the law and all that it calls make is longer than what came in: it says more and counts as full. Else prove '..UptoSaid'. A law counts once. -/
mutual
def uptoBulk {H : Type} : DataW H → Nat
  | .lit (.string bytes) => bytes.length + 1
  | .lit _ => 1
  | .nil => 1
  | .ptr d => uptoBulk d + 1
  | .slice elems spare => uptoBulkAll elems + uptoBulkAll spare + 1
  | .agg parts => uptoBulkAll parts + 1
  | .iface _ d => uptoBulk d + 1
  | .map entries => uptoBulkEntries entries + 1
  | .held _ => 1
def uptoBulkAll {H : Type} : List (DataW H) → Nat
  | [] => 0
  | d :: r => uptoBulk d + uptoBulkAll r
def uptoBulkEntries {H : Type} : List (Lit × DataW H) → Nat
  | [] => 0
  | x :: r => uptoBulkEntry x + uptoBulkEntries r
def uptoBulkEntry {H : Type} : Lit × DataW H → Nat
  | (.string bytes, d) => bytes.length + uptoBulk d + 1
  | (_, d) => uptoBulk d + 1
 end
def uptoSmall : (H : Type) → List (DataW H) → Bool := fun _ ds => decide (uptoBulkAll ds ≤ 1048576)
def OpenSpec.upto (s : _root_.Go.ChangeSpec) : _root_.Go.OpenSpec := { _root_.Go.OpenSpec.ofChange s with cond := some uptoSmall }

/-- 'bindlelaw01.BitsTurns', WHERE WHAT IT READS IS OF BULK AT MOST 1048576: true; the input reads as it did. -/
def bitsTurnsUptoRow : OpenClaim := { program := "ytnlnjgjggohdfaadoor", sum := "d739d24116d4369e46d08abb8b92b72e23687aec9758339b157305a77cf46905", func := "bindle/bindlelaw01.BitsTurns", spec := "bitsTurns", named := ["bindle/bits.cubeRoots"], apart := false, laid := [("bindle/bits.cubeRoots", laid_bindle_bits_cubeRoots)], narrowed := true }
def BitsTurnsUptoSaid : Prop := bitsTurnsUptoRow.holds Tryd.pinned (OpenSpec.upto bitsTurnsSpec)

/-- 'bindlelaw01.BitsSigmas', WHERE WHAT IT READS IS OF BULK AT MOST 1048576: true; the input reads as it did. -/
def bitsSigmasUptoRow : OpenClaim := { program := "ytnlnjgjggohdfaadoor", sum := "d739d24116d4369e46d08abb8b92b72e23687aec9758339b157305a77cf46905", func := "bindle/bindlelaw01.BitsSigmas", spec := "bitsSigmas", named := ["bindle/bits.cubeRoots"], apart := false, laid := [("bindle/bits.cubeRoots", laid_bindle_bits_cubeRoots)], narrowed := true }
def BitsSigmasUptoSaid : Prop := bitsSigmasUptoRow.holds Tryd.pinned (OpenSpec.upto bitsSigmasSpec)

/-- 'bindlelaw01.BitsConstants', WHERE WHAT IT READS IS OF BULK AT MOST 1048576: true; the input reads as it did. -/
def bitsConstantsUptoRow : OpenClaim := { program := "ytnlnjgjggohdfaadoor", sum := "d739d24116d4369e46d08abb8b92b72e23687aec9758339b157305a77cf46905", func := "bindle/bindlelaw01.BitsConstants", spec := "bitsConstants", named := ["bindle/bits.cubeRoots"], apart := false, laid := [("bindle/bits.cubeRoots", laid_bindle_bits_cubeRoots)], narrowed := true }
def BitsConstantsUptoSaid : Prop := bitsConstantsUptoRow.holds Tryd.pinned (OpenSpec.upto bitsConstantsSpec)

/-- 'bindlelaw01.BitsAdds', WHERE WHAT IT READS IS OF BULK AT MOST 1048576: true; the input reads as it did. -/
def bitsAddsUptoRow : OpenClaim := { program := "ytnlnjgjggohdfaadoor", sum := "d739d24116d4369e46d08abb8b92b72e23687aec9758339b157305a77cf46905", func := "bindle/bindlelaw01.BitsAdds", spec := "bitsAdds", named := ["bindle/bits.cubeRoots"], apart := false, laid := [("bindle/bits.cubeRoots", laid_bindle_bits_cubeRoots)], narrowed := true }
def BitsAddsUptoSaid : Prop := bitsAddsUptoRow.holds Tryd.pinned (OpenSpec.upto bitsAddsSpec)

/-- 'bindlelaw01.BitsBack', WHERE WHAT IT READS IS OF BULK AT MOST 1048576: true; the input reads as it did. -/
def bitsBackUptoRow : OpenClaim := { program := "ytnlnjgjggohdfaadoor", sum := "d739d24116d4369e46d08abb8b92b72e23687aec9758339b157305a77cf46905", func := "bindle/bindlelaw01.BitsBack", spec := "bitsBack", named := ["bindle/bits.cubeRoots"], apart := false, laid := [("bindle/bits.cubeRoots", laid_bindle_bits_cubeRoots)], narrowed := true }
def BitsBackUptoSaid : Prop := bitsBackUptoRow.holds Tryd.pinned (OpenSpec.upto bitsBackSpec)

/-- 'bindlelaw01.BitsChoice', WHERE WHAT IT READS IS OF BULK AT MOST 1048576: true; the input reads as it did. -/
def bitsChoiceUptoRow : OpenClaim := { program := "ytnlnjgjggohdfaadoor", sum := "d739d24116d4369e46d08abb8b92b72e23687aec9758339b157305a77cf46905", func := "bindle/bindlelaw01.BitsChoice", spec := "bitsChoice", named := ["bindle/bits.cubeRoots"], apart := false, laid := [("bindle/bits.cubeRoots", laid_bindle_bits_cubeRoots)], narrowed := true }
def BitsChoiceUptoSaid : Prop := bitsChoiceUptoRow.holds Tryd.pinned (OpenSpec.upto bitsChoiceSpec)

end Rows
end Go.Proofs.YtnlnjgjggohdfaaDoor
