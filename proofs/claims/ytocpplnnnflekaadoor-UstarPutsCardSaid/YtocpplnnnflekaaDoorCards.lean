/-
  DERIVED. GIVEN WITH THE SEED: THE CARDS: each row of YtocpplnnnflekaaDoorRows.lean that lists a variable, with what it lists TIED to the program's text (the seventh form; the later family's looks); each row that meets fmt, with fmt's text TOLD by the authors' own Lean function (tested against real Go, not proved from fmt's source: count such statements apart). THE CARD IS WHAT COUNTS. Prove the row's statement (the work); the ties are given (YtocpplnnnflekaaDoorTie.lean); close each card by the builder's one call (the guide's Derived/Test/ToyasCard.lean, 'card_holds'). Laid BY PROGRAM, IN A SANDBOX (cutbox-door.mjs). By AI agents, Wed Nov 11 2026. No macro, syntax, notation, axiom, sorry.
-/
import Derived.Test.YtocpplnnnflekaaDoorRows
import GoSem.ClaimSeven
namespace Go.Proofs.YtocpplnnnflekaaDoor
namespace Rows

/-- THE TIED CARD OF 'bindlelaw08.UstarPuts'. -/
def ustarPutsCard : Claim7 := { stood := { row := ustarPutsRow, standIns := [], harness := (true, "08355279ffd677c8a8382aa32450eed251c1965160e784d04aec44737f4fac6f"), looks := false }, kinds := [], alts := [], laidByText := true, laidKinds := [.data, .pinned], laidTests := true, laidLooks := .later }
def UstarPutsCardSaid : Prop := Claim7.holds Tryd.pinned (.plain (OpenSpec.ofChange ustarPutsSpec)) ustarPutsCard

/-- THE TIED CARD OF 'bindlelaw08.UstarGets'. -/
def ustarGetsCard : Claim7 := { stood := { row := ustarGetsRow, standIns := [], harness := (true, "08355279ffd677c8a8382aa32450eed251c1965160e784d04aec44737f4fac6f"), looks := false }, kinds := [], alts := [], laidByText := true, laidKinds := [.data, .pinned], laidTests := true, laidLooks := .later }
def UstarGetsCardSaid : Prop := Claim7.holds Tryd.pinned (.plain (OpenSpec.ofChange ustarGetsSpec)) ustarGetsCard

/-- THE TIED CARD OF 'bindlelaw08.UstarBack'. -/
def ustarBackCard : Claim7 := { stood := { row := ustarBackRow, standIns := [], harness := (true, "08355279ffd677c8a8382aa32450eed251c1965160e784d04aec44737f4fac6f"), looks := false }, kinds := [], alts := [], laidByText := true, laidKinds := [.data, .pinned], laidTests := true, laidLooks := .later }
def UstarBackCardSaid : Prop := Claim7.holds Tryd.pinned (.plain (OpenSpec.ofChange ustarBackSpec)) ustarBackCard

/-- THE TIED CARD OF 'bindlelaw08.UstarOnes'. -/
def ustarOnesCard : Claim7 := { stood := { row := ustarOnesRow, standIns := [], harness := (true, "08355279ffd677c8a8382aa32450eed251c1965160e784d04aec44737f4fac6f"), looks := false }, kinds := [], alts := [], laidByText := true, laidKinds := [.data, .pinned], laidTests := true, laidLooks := .later }
def UstarOnesCardSaid : Prop := Claim7.holds Tryd.pinned (.plain (OpenSpec.ofChange ustarOnesSpec)) ustarOnesCard

/-- THE TIED CARD OF 'bindlelaw08.UstarCuts'. -/
def ustarCutsCard : Claim7 := { stood := { row := ustarCutsRow, standIns := [], harness := (true, "08355279ffd677c8a8382aa32450eed251c1965160e784d04aec44737f4fac6f"), looks := false }, kinds := [], alts := [], laidByText := true, laidKinds := [.data, .pinned], laidTests := true, laidLooks := .later }
def UstarCutsCardSaid : Prop := Claim7.holds Tryd.pinned (.plain (OpenSpec.ofChange ustarCutsSpec)) ustarCutsCard

/-- THE TIED CARD OF 'bindlelaw08.UstarTurned'. -/
def ustarTurnedCard : Claim7 := { stood := { row := ustarTurnedRow, standIns := [], harness := (true, "08355279ffd677c8a8382aa32450eed251c1965160e784d04aec44737f4fac6f"), looks := false }, kinds := [], alts := [], laidByText := true, laidKinds := [.data, .pinned], laidTests := true, laidLooks := .later }
def UstarTurnedCardSaid : Prop := Claim7.holds Tryd.pinned (.plain (OpenSpec.ofChange ustarTurnedSpec)) ustarTurnedCard

/-- THE TIED CARD OF 'bindlelaw08.UstarJoins'. -/
def ustarJoinsCard : Claim7 := { stood := { row := ustarJoinsRow, standIns := [], harness := (true, "08355279ffd677c8a8382aa32450eed251c1965160e784d04aec44737f4fac6f"), looks := false }, kinds := [], alts := [], laidByText := true, laidKinds := [.data, .pinned], laidTests := true, laidLooks := .later }
def UstarJoinsCardSaid : Prop := Claim7.holds Tryd.pinned (.plain (OpenSpec.ofChange ustarJoinsSpec)) ustarJoinsCard

/-- THE SECOND FORM's CARD OF 'bindlelaw08.UstarPuts'. -/
def ustarPutsUptoCard : Claim7 := { stood := { row := ustarPutsUptoRow, standIns := [], harness := (true, "08355279ffd677c8a8382aa32450eed251c1965160e784d04aec44737f4fac6f"), looks := false }, kinds := [], alts := [], laidByText := true, laidKinds := [.data, .pinned], laidTests := true, laidLooks := .later }
def UstarPutsUptoCardSaid : Prop := Claim7.holds Tryd.pinned (.plain (OpenSpec.upto ustarPutsSpec)) ustarPutsUptoCard

/-- THE SECOND FORM's CARD OF 'bindlelaw08.UstarGets'. -/
def ustarGetsUptoCard : Claim7 := { stood := { row := ustarGetsUptoRow, standIns := [], harness := (true, "08355279ffd677c8a8382aa32450eed251c1965160e784d04aec44737f4fac6f"), looks := false }, kinds := [], alts := [], laidByText := true, laidKinds := [.data, .pinned], laidTests := true, laidLooks := .later }
def UstarGetsUptoCardSaid : Prop := Claim7.holds Tryd.pinned (.plain (OpenSpec.upto ustarGetsSpec)) ustarGetsUptoCard

/-- THE SECOND FORM's CARD OF 'bindlelaw08.UstarBack'. -/
def ustarBackUptoCard : Claim7 := { stood := { row := ustarBackUptoRow, standIns := [], harness := (true, "08355279ffd677c8a8382aa32450eed251c1965160e784d04aec44737f4fac6f"), looks := false }, kinds := [], alts := [], laidByText := true, laidKinds := [.data, .pinned], laidTests := true, laidLooks := .later }
def UstarBackUptoCardSaid : Prop := Claim7.holds Tryd.pinned (.plain (OpenSpec.upto ustarBackSpec)) ustarBackUptoCard

/-- THE SECOND FORM's CARD OF 'bindlelaw08.UstarOnes'. -/
def ustarOnesUptoCard : Claim7 := { stood := { row := ustarOnesUptoRow, standIns := [], harness := (true, "08355279ffd677c8a8382aa32450eed251c1965160e784d04aec44737f4fac6f"), looks := false }, kinds := [], alts := [], laidByText := true, laidKinds := [.data, .pinned], laidTests := true, laidLooks := .later }
def UstarOnesUptoCardSaid : Prop := Claim7.holds Tryd.pinned (.plain (OpenSpec.upto ustarOnesSpec)) ustarOnesUptoCard

/-- THE SECOND FORM's CARD OF 'bindlelaw08.UstarCuts'. -/
def ustarCutsUptoCard : Claim7 := { stood := { row := ustarCutsUptoRow, standIns := [], harness := (true, "08355279ffd677c8a8382aa32450eed251c1965160e784d04aec44737f4fac6f"), looks := false }, kinds := [], alts := [], laidByText := true, laidKinds := [.data, .pinned], laidTests := true, laidLooks := .later }
def UstarCutsUptoCardSaid : Prop := Claim7.holds Tryd.pinned (.plain (OpenSpec.upto ustarCutsSpec)) ustarCutsUptoCard

/-- THE SECOND FORM's CARD OF 'bindlelaw08.UstarTurned'. -/
def ustarTurnedUptoCard : Claim7 := { stood := { row := ustarTurnedUptoRow, standIns := [], harness := (true, "08355279ffd677c8a8382aa32450eed251c1965160e784d04aec44737f4fac6f"), looks := false }, kinds := [], alts := [], laidByText := true, laidKinds := [.data, .pinned], laidTests := true, laidLooks := .later }
def UstarTurnedUptoCardSaid : Prop := Claim7.holds Tryd.pinned (.plain (OpenSpec.upto ustarTurnedSpec)) ustarTurnedUptoCard

/-- THE SECOND FORM's CARD OF 'bindlelaw08.UstarJoins'. -/
def ustarJoinsUptoCard : Claim7 := { stood := { row := ustarJoinsUptoRow, standIns := [], harness := (true, "08355279ffd677c8a8382aa32450eed251c1965160e784d04aec44737f4fac6f"), looks := false }, kinds := [], alts := [], laidByText := true, laidKinds := [.data, .pinned], laidTests := true, laidLooks := .later }
def UstarJoinsUptoCardSaid : Prop := Claim7.holds Tryd.pinned (.plain (OpenSpec.upto ustarJoinsSpec)) ustarJoinsUptoCard
end Rows
end Go.Proofs.YtocpplnnnflekaaDoor
