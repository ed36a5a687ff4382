/-
  DERIVED. GIVEN WITH THE SEED: THE CARDS: each row of YtikhmhgjaipnaaaDoorRows.lean that lists a variable, with what it lists TIED to the program's text (the seventh form; the later family's looks); each row that meets fmt, with fmt's text TOLD by the authors' own Lean function (tested against real Go, not proved from fmt's source: count such statements apart). THE CARD IS WHAT COUNTS. Prove the row's statement (the work); the ties are given (YtikhmhgjaipnaaaDoorTie.lean); close each card by the builder's one call (the guide's Derived/Test/ToyasCard.lean, 'card_holds'). Laid BY PROGRAM, IN A SANDBOX (cutbox-door.mjs). By AI agents, Wed Nov 11 2026. No macro, syntax, notation, axiom, sorry.
-/
import Derived.Test.YtikhmhgjaipnaaaDoorRows
import GoSem.ClaimSeven
namespace Go.Proofs.YtikhmhgjaipnaaaDoor
namespace Rows

/-- THE TIED CARD OF 'bindlelaw04.HexaTexts'. -/
def hexaTextsCard : Claim7 := { stood := { row := hexaTextsRow, standIns := [], harness := (true, "a7a4eb218c94f767f982580a5b60917682477aafc135fbd38a7152f5f2e685fa"), looks := false }, kinds := [], alts := [], laidByText := true, laidKinds := [.data, .data, .data], laidTests := true, laidLooks := .later }
def HexaTextsCardSaid : Prop := Claim7.holds Tryd.pinned (.plain (OpenSpec.ofChange hexaTextsSpec)) hexaTextsCard

/-- THE TIED CARD OF 'bindlelaw04.HexaNumbers'. -/
def hexaNumbersCard : Claim7 := { stood := { row := hexaNumbersRow, standIns := [], harness := (true, "a7a4eb218c94f767f982580a5b60917682477aafc135fbd38a7152f5f2e685fa"), looks := false }, kinds := [], alts := [], laidByText := true, laidKinds := [.data, .data, .data], laidTests := true, laidLooks := .later }
def HexaNumbersCardSaid : Prop := Claim7.holds Tryd.pinned (.plain (OpenSpec.ofChange hexaNumbersSpec)) hexaNumbersCard

/-- THE TIED CARD OF 'bindlelaw04.HexaBack'. -/
def hexaBackCard : Claim7 := { stood := { row := hexaBackRow, standIns := [], harness := (true, "a7a4eb218c94f767f982580a5b60917682477aafc135fbd38a7152f5f2e685fa"), looks := false }, kinds := [], alts := [], laidByText := true, laidKinds := [.data, .data, .data], laidTests := true, laidLooks := .later }
def HexaBackCardSaid : Prop := Claim7.holds Tryd.pinned (.plain (OpenSpec.ofChange hexaBackSpec)) hexaBackCard

/-- THE TIED CARD OF 'bindlelaw04.HexaReads'. -/
def hexaReadsCard : Claim7 := { stood := { row := hexaReadsRow, standIns := [], harness := (true, "a7a4eb218c94f767f982580a5b60917682477aafc135fbd38a7152f5f2e685fa"), looks := false }, kinds := [], alts := [], laidByText := true, laidKinds := [.data, .data, .data], laidTests := true, laidLooks := .later }
def HexaReadsCardSaid : Prop := Claim7.holds Tryd.pinned (.plain (OpenSpec.ofChange hexaReadsSpec)) hexaReadsCard

/-- THE TIED CARD OF 'bindlelaw04.HexaOrder'. -/
def hexaOrderCard : Claim7 := { stood := { row := hexaOrderRow, standIns := [], harness := (true, "a7a4eb218c94f767f982580a5b60917682477aafc135fbd38a7152f5f2e685fa"), looks := false }, kinds := [], alts := [], laidByText := true, laidKinds := [.data, .data, .data], laidTests := true, laidLooks := .later }
def HexaOrderCardSaid : Prop := Claim7.holds Tryd.pinned (.plain (OpenSpec.ofChange hexaOrderSpec)) hexaOrderCard

/-- THE TIED CARD OF 'bindlelaw04.HexaBad'. -/
def hexaBadCard : Claim7 := { stood := { row := hexaBadRow, standIns := [], harness := (true, "a7a4eb218c94f767f982580a5b60917682477aafc135fbd38a7152f5f2e685fa"), looks := false }, kinds := [], alts := [], laidByText := true, laidKinds := [.data, .data, .data], laidTests := true, laidLooks := .later }
def HexaBadCardSaid : Prop := Claim7.holds Tryd.pinned (.plain (OpenSpec.ofChange hexaBadSpec)) hexaBadCard

/-- THE SECOND FORM's CARD OF 'bindlelaw04.HexaTexts'. -/
def hexaTextsUptoCard : Claim7 := { stood := { row := hexaTextsUptoRow, standIns := [], harness := (true, "a7a4eb218c94f767f982580a5b60917682477aafc135fbd38a7152f5f2e685fa"), looks := false }, kinds := [], alts := [], laidByText := true, laidKinds := [.data, .data, .data], laidTests := true, laidLooks := .later }
def HexaTextsUptoCardSaid : Prop := Claim7.holds Tryd.pinned (.plain (OpenSpec.upto hexaTextsSpec)) hexaTextsUptoCard

/-- THE SECOND FORM's CARD OF 'bindlelaw04.HexaNumbers'. -/
def hexaNumbersUptoCard : Claim7 := { stood := { row := hexaNumbersUptoRow, standIns := [], harness := (true, "a7a4eb218c94f767f982580a5b60917682477aafc135fbd38a7152f5f2e685fa"), looks := false }, kinds := [], alts := [], laidByText := true, laidKinds := [.data, .data, .data], laidTests := true, laidLooks := .later }
def HexaNumbersUptoCardSaid : Prop := Claim7.holds Tryd.pinned (.plain (OpenSpec.upto hexaNumbersSpec)) hexaNumbersUptoCard

/-- THE SECOND FORM's CARD OF 'bindlelaw04.HexaBack'. -/
def hexaBackUptoCard : Claim7 := { stood := { row := hexaBackUptoRow, standIns := [], harness := (true, "a7a4eb218c94f767f982580a5b60917682477aafc135fbd38a7152f5f2e685fa"), looks := false }, kinds := [], alts := [], laidByText := true, laidKinds := [.data, .data, .data], laidTests := true, laidLooks := .later }
def HexaBackUptoCardSaid : Prop := Claim7.holds Tryd.pinned (.plain (OpenSpec.upto hexaBackSpec)) hexaBackUptoCard

/-- THE SECOND FORM's CARD OF 'bindlelaw04.HexaReads'. -/
def hexaReadsUptoCard : Claim7 := { stood := { row := hexaReadsUptoRow, standIns := [], harness := (true, "a7a4eb218c94f767f982580a5b60917682477aafc135fbd38a7152f5f2e685fa"), looks := false }, kinds := [], alts := [], laidByText := true, laidKinds := [.data, .data, .data], laidTests := true, laidLooks := .later }
def HexaReadsUptoCardSaid : Prop := Claim7.holds Tryd.pinned (.plain (OpenSpec.upto hexaReadsSpec)) hexaReadsUptoCard

/-- THE SECOND FORM's CARD OF 'bindlelaw04.HexaOrder'. -/
def hexaOrderUptoCard : Claim7 := { stood := { row := hexaOrderUptoRow, standIns := [], harness := (true, "a7a4eb218c94f767f982580a5b60917682477aafc135fbd38a7152f5f2e685fa"), looks := false }, kinds := [], alts := [], laidByText := true, laidKinds := [.data, .data, .data], laidTests := true, laidLooks := .later }
def HexaOrderUptoCardSaid : Prop := Claim7.holds Tryd.pinned (.plain (OpenSpec.upto hexaOrderSpec)) hexaOrderUptoCard

/-- THE SECOND FORM's CARD OF 'bindlelaw04.HexaBad'. -/
def hexaBadUptoCard : Claim7 := { stood := { row := hexaBadUptoRow, standIns := [], harness := (true, "a7a4eb218c94f767f982580a5b60917682477aafc135fbd38a7152f5f2e685fa"), looks := false }, kinds := [], alts := [], laidByText := true, laidKinds := [.data, .data, .data], laidTests := true, laidLooks := .later }
def HexaBadUptoCardSaid : Prop := Claim7.holds Tryd.pinned (.plain (OpenSpec.upto hexaBadSpec)) hexaBadUptoCard
end Rows
end Go.Proofs.YtikhmhgjaipnaaaDoor
