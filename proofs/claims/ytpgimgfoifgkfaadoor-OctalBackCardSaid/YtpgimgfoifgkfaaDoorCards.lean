/-
  DERIVED. GIVEN WITH THE SEED: THE CARDS: each row of YtpgimgfoifgkfaaDoorRows.lean that lists a variable, with what it lists TIED to the program's text (the seventh form; the later family's looks); each row that meets fmt, with fmt's text TOLD by the authors' own Lean function (tested against real Go, not proved from fmt's source: count such statements apart). THE CARD IS WHAT COUNTS. Prove the row's statement (the work); the ties are given (YtpgimgfoifgkfaaDoorTie.lean); close each card by the builder's one call (the guide's Derived/Test/ToyasCard.lean, 'card_holds'). Laid BY PROGRAM, IN A SANDBOX (cutbox-door.mjs). By AI agents, Wed Nov 11 2026. No macro, syntax, notation, axiom, sorry.
-/
import Derived.Test.YtpgimgfoifgkfaaDoorRows
import GoSem.ClaimSeven
namespace Go.Proofs.YtpgimgfoifgkfaaDoor
namespace Rows

/-- THE TIED CARD OF 'bindlelaw05.OctalTexts'. -/
def octalTextsCard : Claim7 := { stood := { row := octalTextsRow, standIns := [], harness := (true, "c61b3efe793ee63ae8ba3e57e1b08ba3bf0e061c4ab1e256eb9c2ecd7c789b15"), looks := false }, kinds := [], alts := [], laidByText := true, laidKinds := [.data, .pinned], laidTests := true, laidLooks := .later }
def OctalTextsCardSaid : Prop := Claim7.holds Tryd.pinned (.plain (OpenSpec.ofChange octalTextsSpec)) octalTextsCard

/-- THE TIED CARD OF 'bindlelaw05.OctalBack'. -/
def octalBackCard : Claim7 := { stood := { row := octalBackRow, standIns := [], harness := (true, "c61b3efe793ee63ae8ba3e57e1b08ba3bf0e061c4ab1e256eb9c2ecd7c789b15"), looks := false }, kinds := [], alts := [], laidByText := true, laidKinds := [.data, .pinned], laidTests := true, laidLooks := .later }
def OctalBackCardSaid : Prop := Claim7.holds Tryd.pinned (.plain (OpenSpec.ofChange octalBackSpec)) octalBackCard

/-- THE SECOND FORM's CARD OF 'bindlelaw05.OctalTexts'. -/
def octalTextsUptoCard : Claim7 := { stood := { row := octalTextsUptoRow, standIns := [], harness := (true, "c61b3efe793ee63ae8ba3e57e1b08ba3bf0e061c4ab1e256eb9c2ecd7c789b15"), looks := false }, kinds := [], alts := [], laidByText := true, laidKinds := [.data, .pinned], laidTests := true, laidLooks := .later }
def OctalTextsUptoCardSaid : Prop := Claim7.holds Tryd.pinned (.plain (OpenSpec.upto octalTextsSpec)) octalTextsUptoCard

/-- THE SECOND FORM's CARD OF 'bindlelaw05.OctalBack'. -/
def octalBackUptoCard : Claim7 := { stood := { row := octalBackUptoRow, standIns := [], harness := (true, "c61b3efe793ee63ae8ba3e57e1b08ba3bf0e061c4ab1e256eb9c2ecd7c789b15"), looks := false }, kinds := [], alts := [], laidByText := true, laidKinds := [.data, .pinned], laidTests := true, laidLooks := .later }
def OctalBackUptoCardSaid : Prop := Claim7.holds Tryd.pinned (.plain (OpenSpec.upto octalBackSpec)) octalBackUptoCard
end Rows
end Go.Proofs.YtpgimgfoifgkfaaDoor
