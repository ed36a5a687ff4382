/-
  DERIVED. GIVEN WITH THE SEED: THE CARDS: each row of YtblmmpgainogbaaDoorRows.lean that lists a variable, with what it lists TIED to the program's text (the seventh form; the later family's looks); each row that meets fmt, with fmt's text TOLD by the authors' own Lean function (tested against real Go, not proved from fmt's source: count such statements apart). THE CARD IS WHAT COUNTS. Prove the row's statement (the work); the ties are given (YtblmmpgainogbaaDoorTie.lean); close each card by the builder's one call (the guide's Derived/Test/ToyasCard.lean, 'card_holds'). Laid BY PROGRAM, IN A SANDBOX (cutbox-door.mjs). By AI agents, Wed Nov 11 2026. No macro, syntax, notation, axiom, sorry.
-/
import Derived.Test.YtblmmpgainogbaaDoorRows
import GoSem.ClaimSeven
namespace Go.Proofs.YtblmmpgainogbaaDoor
namespace Rows

/-- THE TIED CARD OF 'bindlelaw02.BlockCompresses'. -/
def blockCompressesCard : Claim7 := { stood := { row := blockCompressesRow, standIns := [], harness := (true, "030f1f47013b687367210cf5b9ba0b222f920aeca447958623577b80946006c0"), looks := false }, kinds := [], alts := [], laidByText := true, laidKinds := [.data], laidTests := true, laidLooks := .later }
def BlockCompressesCardSaid : Prop := Claim7.holds Tryd.pinned (.plain (OpenSpec.ofChange blockCompressesSpec)) blockCompressesCard

/-- THE TIED CARD OF 'bindlelaw02.BlockApart'. -/
def blockApartCard : Claim7 := { stood := { row := blockApartRow, standIns := [], harness := (true, "030f1f47013b687367210cf5b9ba0b222f920aeca447958623577b80946006c0"), looks := false }, kinds := [], alts := [], laidByText := true, laidKinds := [.data], laidTests := true, laidLooks := .later }
def BlockApartCardSaid : Prop := Claim7.holds Tryd.pinned (.plain (OpenSpec.ofChange blockApartSpec)) blockApartCard

/-- THE SECOND FORM's CARD OF 'bindlelaw02.BlockCompresses'. -/
def blockCompressesUptoCard : Claim7 := { stood := { row := blockCompressesUptoRow, standIns := [], harness := (true, "030f1f47013b687367210cf5b9ba0b222f920aeca447958623577b80946006c0"), looks := false }, kinds := [], alts := [], laidByText := true, laidKinds := [.data], laidTests := true, laidLooks := .later }
def BlockCompressesUptoCardSaid : Prop := Claim7.holds Tryd.pinned (.plain (OpenSpec.upto blockCompressesSpec)) blockCompressesUptoCard

/-- THE SECOND FORM's CARD OF 'bindlelaw02.BlockApart'. -/
def blockApartUptoCard : Claim7 := { stood := { row := blockApartUptoRow, standIns := [], harness := (true, "030f1f47013b687367210cf5b9ba0b222f920aeca447958623577b80946006c0"), looks := false }, kinds := [], alts := [], laidByText := true, laidKinds := [.data], laidTests := true, laidLooks := .later }
def BlockApartUptoCardSaid : Prop := Claim7.holds Tryd.pinned (.plain (OpenSpec.upto blockApartSpec)) blockApartUptoCard
end Rows
end Go.Proofs.YtblmmpgainogbaaDoor
