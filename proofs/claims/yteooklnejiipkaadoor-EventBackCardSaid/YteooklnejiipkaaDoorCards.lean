/-
  DERIVED. GIVEN WITH THE SEED: THE CARDS: each row of YteooklnejiipkaaDoorRows.lean that lists a variable, with what it lists TIED to the program's text (the seventh form; the later family's looks); each row that meets fmt, with fmt's text TOLD by the authors' own Lean function (tested against real Go, not proved from fmt's source: count such statements apart). THE CARD IS WHAT COUNTS. Prove the row's statement (the work); the ties are given (YteooklnejiipkaaDoorTie.lean); close each card by the builder's one call (the guide's Derived/Test/ToyasCard.lean, 'card_holds'). Laid BY PROGRAM, IN A SANDBOX (cutbox-door.mjs). By AI agents, Wed Nov 11 2026. No macro, syntax, notation, axiom, sorry.
-/
import Derived.Test.YteooklnejiipkaaDoorRows
import GoSem.ClaimSeven
namespace Go.Proofs.YteooklnejiipkaaDoor
namespace Rows

/-- THE TIED CARD OF 'bindlelaw12.EventBack'. -/
def eventBackCard : Claim7 := { stood := { row := eventBackRow, standIns := [], harness := (true, "3ffa24a480ace46c5749524c9159ee983ad401bacd3524eb11f7ef1a627e153f"), looks := false }, kinds := [], alts := [], laidByText := true, laidKinds := [.data, .data, .data, .data, .pinned], laidTests := true, laidLooks := .later }
def EventBackCardSaid : Prop := Claim7.holds Tryd.pinned (.plain (OpenSpec.ofChange eventBackSpec)) eventBackCard

/-- THE TIED CARD OF 'bindlelaw12.EventHistory'. -/
def eventHistoryCard : Claim7 := { stood := { row := eventHistoryRow, standIns := [], harness := (true, "3ffa24a480ace46c5749524c9159ee983ad401bacd3524eb11f7ef1a627e153f"), looks := false }, kinds := [], alts := [], laidByText := true, laidKinds := [.data, .data, .data, .data, .pinned], laidTests := true, laidLooks := .later }
def EventHistoryCardSaid : Prop := Claim7.holds Tryd.pinned (.plain (OpenSpec.ofChange eventHistorySpec)) eventHistoryCard

/-- THE TIED CARD OF 'bindlelaw12.EventOrder'. -/
def eventOrderCard : Claim7 := { stood := { row := eventOrderRow, standIns := [], harness := (true, "3ffa24a480ace46c5749524c9159ee983ad401bacd3524eb11f7ef1a627e153f"), looks := false }, kinds := [], alts := [], laidByText := true, laidKinds := [.data, .data, .data, .data, .pinned], laidTests := true, laidLooks := .later }
def EventOrderCardSaid : Prop := Claim7.holds Tryd.pinned (.plain (OpenSpec.ofChange eventOrderSpec)) eventOrderCard

/-- THE TIED CARD OF 'bindlelaw12.EventBad'. -/
def eventBadCard : Claim7 := { stood := { row := eventBadRow, standIns := [], harness := (true, "3ffa24a480ace46c5749524c9159ee983ad401bacd3524eb11f7ef1a627e153f"), looks := false }, kinds := [], alts := [], laidByText := true, laidKinds := [.data, .data, .data, .data, .pinned], laidTests := true, laidLooks := .later }
def EventBadCardSaid : Prop := Claim7.holds Tryd.pinned (.plain (OpenSpec.ofChange eventBadSpec)) eventBadCard

/-- THE SECOND FORM's CARD OF 'bindlelaw12.EventBack'. -/
def eventBackUptoCard : Claim7 := { stood := { row := eventBackUptoRow, standIns := [], harness := (true, "3ffa24a480ace46c5749524c9159ee983ad401bacd3524eb11f7ef1a627e153f"), looks := false }, kinds := [], alts := [], laidByText := true, laidKinds := [.data, .data, .data, .data, .pinned], laidTests := true, laidLooks := .later }
def EventBackUptoCardSaid : Prop := Claim7.holds Tryd.pinned (.plain (OpenSpec.upto eventBackSpec)) eventBackUptoCard

/-- THE SECOND FORM's CARD OF 'bindlelaw12.EventHistory'. -/
def eventHistoryUptoCard : Claim7 := { stood := { row := eventHistoryUptoRow, standIns := [], harness := (true, "3ffa24a480ace46c5749524c9159ee983ad401bacd3524eb11f7ef1a627e153f"), looks := false }, kinds := [], alts := [], laidByText := true, laidKinds := [.data, .data, .data, .data, .pinned], laidTests := true, laidLooks := .later }
def EventHistoryUptoCardSaid : Prop := Claim7.holds Tryd.pinned (.plain (OpenSpec.upto eventHistorySpec)) eventHistoryUptoCard

/-- THE SECOND FORM's CARD OF 'bindlelaw12.EventOrder'. -/
def eventOrderUptoCard : Claim7 := { stood := { row := eventOrderUptoRow, standIns := [], harness := (true, "3ffa24a480ace46c5749524c9159ee983ad401bacd3524eb11f7ef1a627e153f"), looks := false }, kinds := [], alts := [], laidByText := true, laidKinds := [.data, .data, .data, .data, .pinned], laidTests := true, laidLooks := .later }
def EventOrderUptoCardSaid : Prop := Claim7.holds Tryd.pinned (.plain (OpenSpec.upto eventOrderSpec)) eventOrderUptoCard

/-- THE SECOND FORM's CARD OF 'bindlelaw12.EventBad'. -/
def eventBadUptoCard : Claim7 := { stood := { row := eventBadUptoRow, standIns := [], harness := (true, "3ffa24a480ace46c5749524c9159ee983ad401bacd3524eb11f7ef1a627e153f"), looks := false }, kinds := [], alts := [], laidByText := true, laidKinds := [.data, .data, .data, .data, .pinned], laidTests := true, laidLooks := .later }
def EventBadUptoCardSaid : Prop := Claim7.holds Tryd.pinned (.plain (OpenSpec.upto eventBadSpec)) eventBadUptoCard
end Rows
end Go.Proofs.YteooklnejiipkaaDoor
