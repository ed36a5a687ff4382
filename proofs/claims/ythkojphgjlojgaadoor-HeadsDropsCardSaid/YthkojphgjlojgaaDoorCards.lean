/-
  DERIVED. GIVEN WITH THE SEED: THE CARDS: each row of YthkojphgjlojgaaDoorRows.lean that lists a variable, with what it lists TIED to the program's text (the seventh form; the later family's looks); each row that meets fmt, with fmt's text TOLD by the authors' own Lean function (tested against real Go, not proved from fmt's source: count such statements apart). THE CARD IS WHAT COUNTS. Prove the row's statement (the work); the ties are given (YthkojphgjlojgaaDoorTie.lean); close each card by the builder's one call (the guide's Derived/Test/ToyasCard.lean, 'card_holds'). Laid BY PROGRAM, IN A SANDBOX (cutbox-door.mjs). By AI agents, Wed Nov 11 2026. No macro, syntax, notation, axiom, sorry.
-/
import Derived.Test.YthkojphgjlojgaaDoorRows
import GoSem.ClaimSeven
namespace Go.Proofs.YthkojphgjlojgaaDoor
namespace Rows

/-- THE TIED CARD OF 'bindlelaw12.EventHistory'. -/
def eventHistoryCard : Claim7 := { stood := { row := eventHistoryRow, standIns := [], harness := (true, "c55998b99ad9a7a093c293b6462c0a0a37c7b8333c259282b262ed58f945b1ca"), looks := false }, kinds := [], alts := [], laidByText := true, laidKinds := [.data, .data, .data, .data, .pinned], laidTests := true, laidLooks := .later }
def EventHistoryCardSaid : Prop := Claim7.holds Tryd.pinned (.plain (OpenSpec.ofChange eventHistorySpec)) eventHistoryCard

/-- THE TIED CARD OF 'bindlelaw13.HeadsLive'. -/
def headsLiveCard : Claim7 := { stood := { row := headsLiveRow, standIns := [], harness := (true, "c55998b99ad9a7a093c293b6462c0a0a37c7b8333c259282b262ed58f945b1ca"), looks := false }, kinds := [], alts := [], laidByText := true, laidKinds := [.data, .data, .data], laidTests := true, laidLooks := .later }
def HeadsLiveCardSaid : Prop := Claim7.holds Tryd.pinned (.plain (OpenSpec.ofChange headsLiveSpec)) headsLiveCard

/-- THE TIED CARD OF 'bindlelaw13.HeadsDrops'. -/
def headsDropsCard : Claim7 := { stood := { row := headsDropsRow, standIns := [], harness := (true, "c55998b99ad9a7a093c293b6462c0a0a37c7b8333c259282b262ed58f945b1ca"), looks := false }, kinds := [], alts := [], laidByText := true, laidKinds := [.data, .data, .data], laidTests := true, laidLooks := .later }
def HeadsDropsCardSaid : Prop := Claim7.holds Tryd.pinned (.plain (OpenSpec.ofChange headsDropsSpec)) headsDropsCard

/-- THE SECOND FORM's CARD OF 'bindlelaw12.EventHistory'. -/
def eventHistoryUptoCard : Claim7 := { stood := { row := eventHistoryUptoRow, standIns := [], harness := (true, "c55998b99ad9a7a093c293b6462c0a0a37c7b8333c259282b262ed58f945b1ca"), looks := false }, kinds := [], alts := [], laidByText := true, laidKinds := [.data, .data, .data, .data, .pinned], laidTests := true, laidLooks := .later }
def EventHistoryUptoCardSaid : Prop := Claim7.holds Tryd.pinned (.plain (OpenSpec.upto eventHistorySpec)) eventHistoryUptoCard

/-- THE SECOND FORM's CARD OF 'bindlelaw13.HeadsLive'. -/
def headsLiveUptoCard : Claim7 := { stood := { row := headsLiveUptoRow, standIns := [], harness := (true, "c55998b99ad9a7a093c293b6462c0a0a37c7b8333c259282b262ed58f945b1ca"), looks := false }, kinds := [], alts := [], laidByText := true, laidKinds := [.data, .data, .data], laidTests := true, laidLooks := .later }
def HeadsLiveUptoCardSaid : Prop := Claim7.holds Tryd.pinned (.plain (OpenSpec.upto headsLiveSpec)) headsLiveUptoCard

/-- THE SECOND FORM's CARD OF 'bindlelaw13.HeadsDrops'. -/
def headsDropsUptoCard : Claim7 := { stood := { row := headsDropsUptoRow, standIns := [], harness := (true, "c55998b99ad9a7a093c293b6462c0a0a37c7b8333c259282b262ed58f945b1ca"), looks := false }, kinds := [], alts := [], laidByText := true, laidKinds := [.data, .data, .data], laidTests := true, laidLooks := .later }
def HeadsDropsUptoCardSaid : Prop := Claim7.holds Tryd.pinned (.plain (OpenSpec.upto headsDropsSpec)) headsDropsUptoCard
end Rows
end Go.Proofs.YthkojphgjlojgaaDoor
