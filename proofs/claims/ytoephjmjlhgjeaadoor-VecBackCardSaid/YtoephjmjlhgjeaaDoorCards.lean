/-
  DERIVED. GIVEN WITH THE SEED: THE CARDS: each row of YtoephjmjlhgjeaaDoorRows.lean that lists a variable, with what it lists TIED to the program's text (the seventh form; the later family's looks); each row that meets fmt, with fmt's text TOLD by the authors' own Lean function (tested against real Go, not proved from fmt's source: count such statements apart). THE CARD IS WHAT COUNTS. Prove the row's statement (the work); the ties are given (YtoephjmjlhgjeaaDoorTie.lean); close each card by the builder's one call (the guide's Derived/Test/ToyasCard.lean, 'card_holds'). Laid BY PROGRAM, IN A SANDBOX (cutbox-door.mjs). By AI agents, Wed Nov 11 2026. No macro, syntax, notation, axiom, sorry.
-/
import Derived.Test.YtoephjmjlhgjeaaDoorRows
import GoSem.ClaimSeven
namespace Go.Proofs.YtoephjmjlhgjeaaDoor
namespace Rows

/-- THE TIED CARD OF 'bindlelaw10.VecKnows'. -/
def vecKnowsCard : Claim7 := { stood := { row := vecKnowsRow, standIns := [], harness := (true, "49a8d94f0cfe4d90a8ccd224425c39043230d921edc834fbeb9141aca955aee9"), looks := false }, kinds := [], alts := [], laidByText := true, laidKinds := [.data, .data, .data, .data, .pinned], laidTests := true, laidLooks := .later }
def VecKnowsCardSaid : Prop := Claim7.holds Tryd.pinned (.plain (OpenSpec.ofChange vecKnowsSpec)) vecKnowsCard

/-- THE TIED CARD OF 'bindlelaw10.VecJoins'. -/
def vecJoinsCard : Claim7 := { stood := { row := vecJoinsRow, standIns := [], harness := (true, "49a8d94f0cfe4d90a8ccd224425c39043230d921edc834fbeb9141aca955aee9"), looks := false }, kinds := [], alts := [], laidByText := true, laidKinds := [.data, .data, .data, .data, .pinned], laidTests := true, laidLooks := .later }
def VecJoinsCardSaid : Prop := Claim7.holds Tryd.pinned (.plain (OpenSpec.ofChange vecJoinsSpec)) vecJoinsCard

/-- THE TIED CARD OF 'bindlelaw10.VecLattice'. -/
def vecLatticeCard : Claim7 := { stood := { row := vecLatticeRow, standIns := [], harness := (true, "49a8d94f0cfe4d90a8ccd224425c39043230d921edc834fbeb9141aca955aee9"), looks := false }, kinds := [], alts := [], laidByText := true, laidKinds := [.data, .data, .data, .data, .pinned], laidTests := true, laidLooks := .later }
def VecLatticeCardSaid : Prop := Claim7.holds Tryd.pinned (.plain (OpenSpec.ofChange vecLatticeSpec)) vecLatticeCard

/-- THE TIED CARD OF 'bindlelaw10.VecDots'. -/
def vecDotsCard : Claim7 := { stood := { row := vecDotsRow, standIns := [], harness := (true, "49a8d94f0cfe4d90a8ccd224425c39043230d921edc834fbeb9141aca955aee9"), looks := false }, kinds := [], alts := [], laidByText := true, laidKinds := [.data, .data, .data, .data, .pinned], laidTests := true, laidLooks := .later }
def VecDotsCardSaid : Prop := Claim7.holds Tryd.pinned (.plain (OpenSpec.ofChange vecDotsSpec)) vecDotsCard

/-- THE TIED CARD OF 'bindlelaw10.VecBack'. -/
def vecBackCard : Claim7 := { stood := { row := vecBackRow, standIns := [], harness := (true, "49a8d94f0cfe4d90a8ccd224425c39043230d921edc834fbeb9141aca955aee9"), looks := false }, kinds := [], alts := [], laidByText := true, laidKinds := [.data, .data, .data, .data, .pinned], laidTests := true, laidLooks := .later }
def VecBackCardSaid : Prop := Claim7.holds Tryd.pinned (.plain (OpenSpec.ofChange vecBackSpec)) vecBackCard

/-- THE TIED CARD OF 'bindlelaw10.VecRaises'. -/
def vecRaisesCard : Claim7 := { stood := { row := vecRaisesRow, standIns := [], harness := (true, "49a8d94f0cfe4d90a8ccd224425c39043230d921edc834fbeb9141aca955aee9"), looks := false }, kinds := [], alts := [], laidByText := true, laidKinds := [.data, .data, .data, .data, .pinned], laidTests := true, laidLooks := .later }
def VecRaisesCardSaid : Prop := Claim7.holds Tryd.pinned (.plain (OpenSpec.ofChange vecRaisesSpec)) vecRaisesCard

/-- THE SECOND FORM's CARD OF 'bindlelaw10.VecKnows'. -/
def vecKnowsUptoCard : Claim7 := { stood := { row := vecKnowsUptoRow, standIns := [], harness := (true, "49a8d94f0cfe4d90a8ccd224425c39043230d921edc834fbeb9141aca955aee9"), looks := false }, kinds := [], alts := [], laidByText := true, laidKinds := [.data, .data, .data, .data, .pinned], laidTests := true, laidLooks := .later }
def VecKnowsUptoCardSaid : Prop := Claim7.holds Tryd.pinned (.plain (OpenSpec.upto vecKnowsSpec)) vecKnowsUptoCard

/-- THE SECOND FORM's CARD OF 'bindlelaw10.VecJoins'. -/
def vecJoinsUptoCard : Claim7 := { stood := { row := vecJoinsUptoRow, standIns := [], harness := (true, "49a8d94f0cfe4d90a8ccd224425c39043230d921edc834fbeb9141aca955aee9"), looks := false }, kinds := [], alts := [], laidByText := true, laidKinds := [.data, .data, .data, .data, .pinned], laidTests := true, laidLooks := .later }
def VecJoinsUptoCardSaid : Prop := Claim7.holds Tryd.pinned (.plain (OpenSpec.upto vecJoinsSpec)) vecJoinsUptoCard

/-- THE SECOND FORM's CARD OF 'bindlelaw10.VecLattice'. -/
def vecLatticeUptoCard : Claim7 := { stood := { row := vecLatticeUptoRow, standIns := [], harness := (true, "49a8d94f0cfe4d90a8ccd224425c39043230d921edc834fbeb9141aca955aee9"), looks := false }, kinds := [], alts := [], laidByText := true, laidKinds := [.data, .data, .data, .data, .pinned], laidTests := true, laidLooks := .later }
def VecLatticeUptoCardSaid : Prop := Claim7.holds Tryd.pinned (.plain (OpenSpec.upto vecLatticeSpec)) vecLatticeUptoCard

/-- THE SECOND FORM's CARD OF 'bindlelaw10.VecDots'. -/
def vecDotsUptoCard : Claim7 := { stood := { row := vecDotsUptoRow, standIns := [], harness := (true, "49a8d94f0cfe4d90a8ccd224425c39043230d921edc834fbeb9141aca955aee9"), looks := false }, kinds := [], alts := [], laidByText := true, laidKinds := [.data, .data, .data, .data, .pinned], laidTests := true, laidLooks := .later }
def VecDotsUptoCardSaid : Prop := Claim7.holds Tryd.pinned (.plain (OpenSpec.upto vecDotsSpec)) vecDotsUptoCard

/-- THE SECOND FORM's CARD OF 'bindlelaw10.VecBack'. -/
def vecBackUptoCard : Claim7 := { stood := { row := vecBackUptoRow, standIns := [], harness := (true, "49a8d94f0cfe4d90a8ccd224425c39043230d921edc834fbeb9141aca955aee9"), looks := false }, kinds := [], alts := [], laidByText := true, laidKinds := [.data, .data, .data, .data, .pinned], laidTests := true, laidLooks := .later }
def VecBackUptoCardSaid : Prop := Claim7.holds Tryd.pinned (.plain (OpenSpec.upto vecBackSpec)) vecBackUptoCard

/-- THE SECOND FORM's CARD OF 'bindlelaw10.VecRaises'. -/
def vecRaisesUptoCard : Claim7 := { stood := { row := vecRaisesUptoRow, standIns := [], harness := (true, "49a8d94f0cfe4d90a8ccd224425c39043230d921edc834fbeb9141aca955aee9"), looks := false }, kinds := [], alts := [], laidByText := true, laidKinds := [.data, .data, .data, .data, .pinned], laidTests := true, laidLooks := .later }
def VecRaisesUptoCardSaid : Prop := Claim7.holds Tryd.pinned (.plain (OpenSpec.upto vecRaisesSpec)) vecRaisesUptoCard
end Rows
end Go.Proofs.YtoephjmjlhgjeaaDoor
