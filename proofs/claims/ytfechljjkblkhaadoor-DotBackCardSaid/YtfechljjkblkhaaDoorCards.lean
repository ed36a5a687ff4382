/-
  DERIVED. GIVEN WITH THE SEED: THE CARDS: each row of YtfechljjkblkhaaDoorRows.lean that lists a variable, with what it lists TIED to the program's text (the seventh form; the later family's looks); each row that meets fmt, with fmt's text TOLD by the authors' own Lean function (tested against real Go, not proved from fmt's source: count such statements apart). THE CARD IS WHAT COUNTS. Prove the row's statement (the work); the ties are given (YtfechljjkblkhaaDoorTie.lean); close each card by the builder's one call (the guide's Derived/Test/ToyasCard.lean, 'card_holds'). Laid BY PROGRAM, IN A SANDBOX (cutbox-door.mjs). By AI agents, Wed Nov 11 2026. No macro, syntax, notation, axiom, sorry.
-/
import Derived.Test.YtfechljjkblkhaaDoorRows
import GoSem.ClaimSeven
namespace Go.Proofs.YtfechljjkblkhaaDoor
namespace Rows

/-- THE TIED CARD OF 'bindlelaw09.DotOrders'. -/
def dotOrdersCard : Claim7 := { stood := { row := dotOrdersRow, standIns := [], harness := (true, "755402962c98e78f89c30ca06b3e2876fb66915e3bb0da74840f87fe07238a71"), looks := false }, kinds := [], alts := [], laidByText := true, laidKinds := [.data, .data, .data], laidTests := true, laidLooks := .later }
def DotOrdersCardSaid : Prop := Claim7.holds Tryd.pinned (.plain (OpenSpec.ofChange dotOrdersSpec)) dotOrdersCard

/-- THE TIED CARD OF 'bindlelaw09.DotTexts'. -/
def dotTextsCard : Claim7 := { stood := { row := dotTextsRow, standIns := [], harness := (true, "755402962c98e78f89c30ca06b3e2876fb66915e3bb0da74840f87fe07238a71"), looks := false }, kinds := [], alts := [], laidByText := true, laidKinds := [.data, .data, .data], laidTests := true, laidLooks := .later }
def DotTextsCardSaid : Prop := Claim7.holds Tryd.pinned (.plain (OpenSpec.ofChange dotTextsSpec)) dotTextsCard

/-- THE TIED CARD OF 'bindlelaw09.DotOne'. -/
def dotOneCard : Claim7 := { stood := { row := dotOneRow, standIns := [], harness := (true, "755402962c98e78f89c30ca06b3e2876fb66915e3bb0da74840f87fe07238a71"), looks := false }, kinds := [], alts := [], laidByText := true, laidKinds := [.data, .data, .data], laidTests := true, laidLooks := .later }
def DotOneCardSaid : Prop := Claim7.holds Tryd.pinned (.plain (OpenSpec.ofChange dotOneSpec)) dotOneCard

/-- THE TIED CARD OF 'bindlelaw09.DotNext'. -/
def dotNextCard : Claim7 := { stood := { row := dotNextRow, standIns := [], harness := (true, "755402962c98e78f89c30ca06b3e2876fb66915e3bb0da74840f87fe07238a71"), looks := false }, kinds := [], alts := [], laidByText := true, laidKinds := [.data, .data, .data], laidTests := true, laidLooks := .later }
def DotNextCardSaid : Prop := Claim7.holds Tryd.pinned (.plain (OpenSpec.ofChange dotNextSpec)) dotNextCard

/-- THE TIED CARD OF 'bindlelaw09.DotBack'. -/
def dotBackCard : Claim7 := { stood := { row := dotBackRow, standIns := [], harness := (true, "755402962c98e78f89c30ca06b3e2876fb66915e3bb0da74840f87fe07238a71"), looks := false }, kinds := [], alts := [], laidByText := true, laidKinds := [.data, .data, .data], laidTests := true, laidLooks := .later }
def DotBackCardSaid : Prop := Claim7.holds Tryd.pinned (.plain (OpenSpec.ofChange dotBackSpec)) dotBackCard

/-- THE TIED CARD OF 'bindlelaw09.DotChain'. -/
def dotChainCard : Claim7 := { stood := { row := dotChainRow, standIns := [], harness := (true, "755402962c98e78f89c30ca06b3e2876fb66915e3bb0da74840f87fe07238a71"), looks := false }, kinds := [], alts := [], laidByText := true, laidKinds := [.data, .data, .data], laidTests := true, laidLooks := .later }
def DotChainCardSaid : Prop := Claim7.holds Tryd.pinned (.plain (OpenSpec.ofChange dotChainSpec)) dotChainCard

/-- THE SECOND FORM's CARD OF 'bindlelaw09.DotOrders'. -/
def dotOrdersUptoCard : Claim7 := { stood := { row := dotOrdersUptoRow, standIns := [], harness := (true, "755402962c98e78f89c30ca06b3e2876fb66915e3bb0da74840f87fe07238a71"), looks := false }, kinds := [], alts := [], laidByText := true, laidKinds := [.data, .data, .data], laidTests := true, laidLooks := .later }
def DotOrdersUptoCardSaid : Prop := Claim7.holds Tryd.pinned (.plain (OpenSpec.upto dotOrdersSpec)) dotOrdersUptoCard

/-- THE SECOND FORM's CARD OF 'bindlelaw09.DotTexts'. -/
def dotTextsUptoCard : Claim7 := { stood := { row := dotTextsUptoRow, standIns := [], harness := (true, "755402962c98e78f89c30ca06b3e2876fb66915e3bb0da74840f87fe07238a71"), looks := false }, kinds := [], alts := [], laidByText := true, laidKinds := [.data, .data, .data], laidTests := true, laidLooks := .later }
def DotTextsUptoCardSaid : Prop := Claim7.holds Tryd.pinned (.plain (OpenSpec.upto dotTextsSpec)) dotTextsUptoCard

/-- THE SECOND FORM's CARD OF 'bindlelaw09.DotOne'. -/
def dotOneUptoCard : Claim7 := { stood := { row := dotOneUptoRow, standIns := [], harness := (true, "755402962c98e78f89c30ca06b3e2876fb66915e3bb0da74840f87fe07238a71"), looks := false }, kinds := [], alts := [], laidByText := true, laidKinds := [.data, .data, .data], laidTests := true, laidLooks := .later }
def DotOneUptoCardSaid : Prop := Claim7.holds Tryd.pinned (.plain (OpenSpec.upto dotOneSpec)) dotOneUptoCard

/-- THE SECOND FORM's CARD OF 'bindlelaw09.DotNext'. -/
def dotNextUptoCard : Claim7 := { stood := { row := dotNextUptoRow, standIns := [], harness := (true, "755402962c98e78f89c30ca06b3e2876fb66915e3bb0da74840f87fe07238a71"), looks := false }, kinds := [], alts := [], laidByText := true, laidKinds := [.data, .data, .data], laidTests := true, laidLooks := .later }
def DotNextUptoCardSaid : Prop := Claim7.holds Tryd.pinned (.plain (OpenSpec.upto dotNextSpec)) dotNextUptoCard

/-- THE SECOND FORM's CARD OF 'bindlelaw09.DotBack'. -/
def dotBackUptoCard : Claim7 := { stood := { row := dotBackUptoRow, standIns := [], harness := (true, "755402962c98e78f89c30ca06b3e2876fb66915e3bb0da74840f87fe07238a71"), looks := false }, kinds := [], alts := [], laidByText := true, laidKinds := [.data, .data, .data], laidTests := true, laidLooks := .later }
def DotBackUptoCardSaid : Prop := Claim7.holds Tryd.pinned (.plain (OpenSpec.upto dotBackSpec)) dotBackUptoCard

/-- THE SECOND FORM's CARD OF 'bindlelaw09.DotChain'. -/
def dotChainUptoCard : Claim7 := { stood := { row := dotChainUptoRow, standIns := [], harness := (true, "755402962c98e78f89c30ca06b3e2876fb66915e3bb0da74840f87fe07238a71"), looks := false }, kinds := [], alts := [], laidByText := true, laidKinds := [.data, .data, .data], laidTests := true, laidLooks := .later }
def DotChainUptoCardSaid : Prop := Claim7.holds Tryd.pinned (.plain (OpenSpec.upto dotChainSpec)) dotChainUptoCard
end Rows
end Go.Proofs.YtfechljjkblkhaaDoor
