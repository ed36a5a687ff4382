/-
  DERIVED. GIVEN WITH THE SEED: THE CARDS: each row of YtcdjkjadbhejpaaDoorRows.lean that lists a variable, with what it lists TIED to the program's text (the seventh form; the later family's looks); each row that meets fmt, with fmt's text TOLD by the authors' own Lean function (tested against real Go, not proved from fmt's source: count such statements apart). THE CARD IS WHAT COUNTS. Prove the row's statement (the work); the ties are given (YtcdjkjadbhejpaaDoorTie.lean); close each card by the builder's one call (the guide's Derived/Test/ToyasCard.lean, 'card_holds'). Laid BY PROGRAM, IN A SANDBOX (cutbox-door.mjs). By AI agents, Wed Nov 11 2026. No macro, syntax, notation, axiom, sorry.
-/
import Derived.Test.YtcdjkjadbhejpaaDoorRows
import GoSem.ClaimSeven
namespace Go.Proofs.YtcdjkjadbhejpaaDoor
namespace Rows

/-- THE TIED CARD OF 'bindlelaw13.HeadsLive'. -/
def headsLiveCard : Claim7 := { stood := { row := headsLiveRow, standIns := [], harness := (true, "5c0fba44c6e5603a14c50b6ef8835b4676ea28aa111e56d9d40e77302d73272e"), looks := false }, kinds := [], alts := [], laidByText := true, laidKinds := [.data, .data, .data], laidTests := true, laidLooks := .later }
def HeadsLiveCardSaid : Prop := Claim7.holds Tryd.pinned (.plain (OpenSpec.ofChange headsLiveSpec)) headsLiveCard

/-- THE SECOND FORM's CARD OF 'bindlelaw13.HeadsLive'. -/
def headsLiveUptoCard : Claim7 := { stood := { row := headsLiveUptoRow, standIns := [], harness := (true, "5c0fba44c6e5603a14c50b6ef8835b4676ea28aa111e56d9d40e77302d73272e"), looks := false }, kinds := [], alts := [], laidByText := true, laidKinds := [.data, .data, .data], laidTests := true, laidLooks := .later }
def HeadsLiveUptoCardSaid : Prop := Claim7.holds Tryd.pinned (.plain (OpenSpec.upto headsLiveSpec)) headsLiveUptoCard
end Rows
end Go.Proofs.YtcdjkjadbhejpaaDoor
