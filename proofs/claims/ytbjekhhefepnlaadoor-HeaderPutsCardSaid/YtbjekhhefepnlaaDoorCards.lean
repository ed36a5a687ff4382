/-
  DERIVED. GIVEN WITH THE SEED: THE CARDS: each row of YtbjekhhefepnlaaDoorRows.lean that lists a variable, with what it lists TIED to the program's text (the seventh form; the later family's looks); each row that meets fmt, with fmt's text TOLD by the authors' own Lean function (tested against real Go, not proved from fmt's source: count such statements apart). THE CARD IS WHAT COUNTS. Prove the row's statement (the work); the ties are given (YtbjekhhefepnlaaDoorTie.lean); close each card by the builder's one call (the guide's Derived/Test/ToyasCard.lean, 'card_holds'). Laid BY PROGRAM, IN A SANDBOX (cutbox-door.mjs). By AI agents, Wed Nov 11 2026. No macro, syntax, notation, axiom, sorry.
-/
import Derived.Test.YtbjekhhefepnlaaDoorRows
import GoSem.ClaimSeven
namespace Go.Proofs.YtbjekhhefepnlaaDoor
namespace Rows

/-- THE TIED CARD OF 'bindlelaw07.HeaderPuts'. -/
def headerPutsCard : Claim7 := { stood := { row := headerPutsRow, standIns := [], harness := (true, "d1aba60d56c28d955772b0f0db90f91e4561f454b88cf99a5755fe2501104642"), looks := false }, kinds := [], alts := [], laidByText := true, laidKinds := [.data, .pinned], laidTests := true, laidLooks := .later }
def HeaderPutsCardSaid : Prop := Claim7.holds Tryd.pinned (.plain (OpenSpec.ofChange headerPutsSpec)) headerPutsCard

/-- THE TIED CARD OF 'bindlelaw07.HeaderBack'. -/
def headerBackCard : Claim7 := { stood := { row := headerBackRow, standIns := [], harness := (true, "d1aba60d56c28d955772b0f0db90f91e4561f454b88cf99a5755fe2501104642"), looks := false }, kinds := [], alts := [], laidByText := true, laidKinds := [.data, .pinned], laidTests := true, laidLooks := .later }
def HeaderBackCardSaid : Prop := Claim7.holds Tryd.pinned (.plain (OpenSpec.ofChange headerBackSpec)) headerBackCard

/-- THE TIED CARD OF 'bindlelaw07.HeaderTurned'. -/
def headerTurnedCard : Claim7 := { stood := { row := headerTurnedRow, standIns := [], harness := (true, "d1aba60d56c28d955772b0f0db90f91e4561f454b88cf99a5755fe2501104642"), looks := false }, kinds := [], alts := [], laidByText := true, laidKinds := [.data, .pinned], laidTests := true, laidLooks := .later }
def HeaderTurnedCardSaid : Prop := Claim7.holds Tryd.pinned (.plain (OpenSpec.ofChange headerTurnedSpec)) headerTurnedCard

/-- THE TIED CARD OF 'bindlelaw07.HeaderSums'. -/
def headerSumsCard : Claim7 := { stood := { row := headerSumsRow, standIns := [], harness := (true, "d1aba60d56c28d955772b0f0db90f91e4561f454b88cf99a5755fe2501104642"), looks := false }, kinds := [], alts := [], laidByText := true, laidKinds := [.data, .pinned], laidTests := true, laidLooks := .later }
def HeaderSumsCardSaid : Prop := Claim7.holds Tryd.pinned (.plain (OpenSpec.ofChange headerSumsSpec)) headerSumsCard

/-- THE TIED CARD OF 'bindlelaw07.HeaderRounds'. -/
def headerRoundsCard : Claim7 := { stood := { row := headerRoundsRow, standIns := [], harness := (true, "d1aba60d56c28d955772b0f0db90f91e4561f454b88cf99a5755fe2501104642"), looks := false }, kinds := [], alts := [], laidByText := true, laidKinds := [.data, .pinned], laidTests := true, laidLooks := .later }
def HeaderRoundsCardSaid : Prop := Claim7.holds Tryd.pinned (.plain (OpenSpec.ofChange headerRoundsSpec)) headerRoundsCard

/-- THE TIED CARD OF 'bindlelaw07.HeaderApart'. -/
def headerApartCard : Claim7 := { stood := { row := headerApartRow, standIns := [], harness := (true, "d1aba60d56c28d955772b0f0db90f91e4561f454b88cf99a5755fe2501104642"), looks := false }, kinds := [], alts := [], laidByText := true, laidKinds := [.data, .pinned], laidTests := true, laidLooks := .later }
def HeaderApartCardSaid : Prop := Claim7.holds Tryd.pinned (.plain (OpenSpec.ofChange headerApartSpec)) headerApartCard

/-- THE SECOND FORM's CARD OF 'bindlelaw07.HeaderPuts'. -/
def headerPutsUptoCard : Claim7 := { stood := { row := headerPutsUptoRow, standIns := [], harness := (true, "d1aba60d56c28d955772b0f0db90f91e4561f454b88cf99a5755fe2501104642"), looks := false }, kinds := [], alts := [], laidByText := true, laidKinds := [.data, .pinned], laidTests := true, laidLooks := .later }
def HeaderPutsUptoCardSaid : Prop := Claim7.holds Tryd.pinned (.plain (OpenSpec.upto headerPutsSpec)) headerPutsUptoCard

/-- THE SECOND FORM's CARD OF 'bindlelaw07.HeaderBack'. -/
def headerBackUptoCard : Claim7 := { stood := { row := headerBackUptoRow, standIns := [], harness := (true, "d1aba60d56c28d955772b0f0db90f91e4561f454b88cf99a5755fe2501104642"), looks := false }, kinds := [], alts := [], laidByText := true, laidKinds := [.data, .pinned], laidTests := true, laidLooks := .later }
def HeaderBackUptoCardSaid : Prop := Claim7.holds Tryd.pinned (.plain (OpenSpec.upto headerBackSpec)) headerBackUptoCard

/-- THE SECOND FORM's CARD OF 'bindlelaw07.HeaderTurned'. -/
def headerTurnedUptoCard : Claim7 := { stood := { row := headerTurnedUptoRow, standIns := [], harness := (true, "d1aba60d56c28d955772b0f0db90f91e4561f454b88cf99a5755fe2501104642"), looks := false }, kinds := [], alts := [], laidByText := true, laidKinds := [.data, .pinned], laidTests := true, laidLooks := .later }
def HeaderTurnedUptoCardSaid : Prop := Claim7.holds Tryd.pinned (.plain (OpenSpec.upto headerTurnedSpec)) headerTurnedUptoCard

/-- THE SECOND FORM's CARD OF 'bindlelaw07.HeaderSums'. -/
def headerSumsUptoCard : Claim7 := { stood := { row := headerSumsUptoRow, standIns := [], harness := (true, "d1aba60d56c28d955772b0f0db90f91e4561f454b88cf99a5755fe2501104642"), looks := false }, kinds := [], alts := [], laidByText := true, laidKinds := [.data, .pinned], laidTests := true, laidLooks := .later }
def HeaderSumsUptoCardSaid : Prop := Claim7.holds Tryd.pinned (.plain (OpenSpec.upto headerSumsSpec)) headerSumsUptoCard

/-- THE SECOND FORM's CARD OF 'bindlelaw07.HeaderRounds'. -/
def headerRoundsUptoCard : Claim7 := { stood := { row := headerRoundsUptoRow, standIns := [], harness := (true, "d1aba60d56c28d955772b0f0db90f91e4561f454b88cf99a5755fe2501104642"), looks := false }, kinds := [], alts := [], laidByText := true, laidKinds := [.data, .pinned], laidTests := true, laidLooks := .later }
def HeaderRoundsUptoCardSaid : Prop := Claim7.holds Tryd.pinned (.plain (OpenSpec.upto headerRoundsSpec)) headerRoundsUptoCard

/-- THE SECOND FORM's CARD OF 'bindlelaw07.HeaderApart'. -/
def headerApartUptoCard : Claim7 := { stood := { row := headerApartUptoRow, standIns := [], harness := (true, "d1aba60d56c28d955772b0f0db90f91e4561f454b88cf99a5755fe2501104642"), looks := false }, kinds := [], alts := [], laidByText := true, laidKinds := [.data, .pinned], laidTests := true, laidLooks := .later }
def HeaderApartUptoCardSaid : Prop := Claim7.holds Tryd.pinned (.plain (OpenSpec.upto headerApartSpec)) headerApartUptoCard
end Rows
end Go.Proofs.YtbjekhhefepnlaaDoor
