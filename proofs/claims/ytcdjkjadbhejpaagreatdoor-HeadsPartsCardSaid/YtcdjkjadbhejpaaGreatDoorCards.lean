/-
  DERIVED. GIVEN WITH THE SEED: THE CARDS: each row of YtcdjkjadbhejpaaGreatDoorRows.lean that lists a variable, with what it lists TIED to the program's text (the seventh form; the later family's looks); each row that meets fmt, with fmt's text TOLD by the authors' own Lean function (tested against real Go, not proved from fmt's source: count such statements apart). THE CARD IS WHAT COUNTS. Prove the row's statement (the work); the ties are given (YtcdjkjadbhejpaaGreatDoorTie.lean); close each card by the builder's one call (the guide's Derived/Test/ToyasCard.lean, 'card_holds'). Laid BY PROGRAM, IN A SANDBOX (cutbox-door.mjs). By AI agents, Wed Nov 11 2026. No macro, syntax, notation, axiom, sorry.
-/
import Derived.Test.YtcdjkjadbhejpaaGreatDoorRows
import GoSem.ClaimSeven
namespace Go.Proofs.YtcdjkjadbhejpaaGreatDoor
namespace Rows

/-- THE TIED CARD OF 'bindlelaw13.HeadsAdd'. -/
def headsAddCard : Claim7 := { stood := { row := headsAddRow, standIns := [], harness := (true, "3d997823b73d27e65623beab8763e278d5dfdbde77e2d51ad811b5d1b8b3f37f"), looks := false }, kinds := [], alts := [], laidByText := true, laidKinds := [.data, .data, .data], laidTests := true, laidLooks := .later }
def HeadsAddCardSaid : Prop := Claim7.holds Tryz.pinned (.plain (OpenSpec.ofChange headsAddSpec)) headsAddCard

/-- THE TIED CARD OF 'bindlelaw13.HeadsOrder'. -/
def headsOrderCard : Claim7 := { stood := { row := headsOrderRow, standIns := [], harness := (true, "3d997823b73d27e65623beab8763e278d5dfdbde77e2d51ad811b5d1b8b3f37f"), looks := false }, kinds := [], alts := [], laidByText := true, laidKinds := [.data, .data, .data], laidTests := true, laidLooks := .later }
def HeadsOrderCardSaid : Prop := Claim7.holds Tryz.pinned (.plain (OpenSpec.ofChange headsOrderSpec)) headsOrderCard

/-- THE TIED CARD OF 'bindlelaw13.HeadsParts'. -/
def headsPartsCard : Claim7 := { stood := { row := headsPartsRow, standIns := [], harness := (true, "3d997823b73d27e65623beab8763e278d5dfdbde77e2d51ad811b5d1b8b3f37f"), looks := false }, kinds := [], alts := [], laidByText := true, laidKinds := [.data, .data, .data], laidTests := true, laidLooks := .later }
def HeadsPartsCardSaid : Prop := Claim7.holds Tryz.pinned (.plain (OpenSpec.ofChange headsPartsSpec)) headsPartsCard

/-- THE TIED CARD OF 'bindlelaw14.ViewShows'. -/
def viewShowsCard : Claim7 := { stood := { row := viewShowsRow, standIns := [], harness := (true, "3d997823b73d27e65623beab8763e278d5dfdbde77e2d51ad811b5d1b8b3f37f"), looks := false }, kinds := [], alts := [], laidByText := true, laidKinds := [.data, .data, .data, .data], laidTests := true, laidLooks := .later }
def ViewShowsCardSaid : Prop := Claim7.holds Tryz.pinned (.plain (OpenSpec.ofChange viewShowsSpec)) viewShowsCard

/-- THE TIED CARD OF 'bindlelaw14.ViewTrees'. -/
def viewTreesCard : Claim7 := { stood := { row := viewTreesRow, standIns := [], harness := (true, "3d997823b73d27e65623beab8763e278d5dfdbde77e2d51ad811b5d1b8b3f37f"), looks := false }, kinds := [], alts := [], laidByText := true, laidKinds := [.data, .data, .data, .data], laidTests := true, laidLooks := .later }
def ViewTreesCardSaid : Prop := Claim7.holds Tryz.pinned (.plain (OpenSpec.ofChange viewTreesSpec)) viewTreesCard

/-- THE TIED CARD OF 'bindlelaw14.ViewAll'. -/
def viewAllCard : Claim7 := { stood := { row := viewAllRow, standIns := [], harness := (true, "3d997823b73d27e65623beab8763e278d5dfdbde77e2d51ad811b5d1b8b3f37f"), looks := false }, kinds := [], alts := [], laidByText := true, laidKinds := [.data, .data, .data, .data], laidTests := true, laidLooks := .later }
def ViewAllCardSaid : Prop := Claim7.holds Tryz.pinned (.plain (OpenSpec.ofChange viewAllSpec)) viewAllCard

/-- THE TIED CARD OF 'bindlelaw14.ViewMain'. -/
def viewMainCard : Claim7 := { stood := { row := viewMainRow, standIns := [], harness := (true, "3d997823b73d27e65623beab8763e278d5dfdbde77e2d51ad811b5d1b8b3f37f"), looks := false }, kinds := [], alts := [], laidByText := true, laidKinds := [.data, .data, .data, .data], laidTests := true, laidLooks := .later }
def ViewMainCardSaid : Prop := Claim7.holds Tryz.pinned (.plain (OpenSpec.ofChange viewMainSpec)) viewMainCard

/-- THE TIED CARD OF 'bindlelaw14.ViewRises'. -/
def viewRisesCard : Claim7 := { stood := { row := viewRisesRow, standIns := [], harness := (true, "3d997823b73d27e65623beab8763e278d5dfdbde77e2d51ad811b5d1b8b3f37f"), looks := false }, kinds := [], alts := [], laidByText := true, laidKinds := [.data, .data, .data, .data], laidTests := true, laidLooks := .later }
def ViewRisesCardSaid : Prop := Claim7.holds Tryz.pinned (.plain (OpenSpec.ofChange viewRisesSpec)) viewRisesCard

/-- THE SECOND FORM's CARD OF 'bindlelaw13.HeadsAdd'. -/
def headsAddUptoCard : Claim7 := { stood := { row := headsAddUptoRow, standIns := [], harness := (true, "3d997823b73d27e65623beab8763e278d5dfdbde77e2d51ad811b5d1b8b3f37f"), looks := false }, kinds := [], alts := [], laidByText := true, laidKinds := [.data, .data, .data], laidTests := true, laidLooks := .later }
def HeadsAddUptoCardSaid : Prop := Claim7.holds Tryz.pinned (.plain (OpenSpec.upto headsAddSpec)) headsAddUptoCard

/-- THE SECOND FORM's CARD OF 'bindlelaw13.HeadsOrder'. -/
def headsOrderUptoCard : Claim7 := { stood := { row := headsOrderUptoRow, standIns := [], harness := (true, "3d997823b73d27e65623beab8763e278d5dfdbde77e2d51ad811b5d1b8b3f37f"), looks := false }, kinds := [], alts := [], laidByText := true, laidKinds := [.data, .data, .data], laidTests := true, laidLooks := .later }
def HeadsOrderUptoCardSaid : Prop := Claim7.holds Tryz.pinned (.plain (OpenSpec.upto headsOrderSpec)) headsOrderUptoCard

/-- THE SECOND FORM's CARD OF 'bindlelaw13.HeadsParts'. -/
def headsPartsUptoCard : Claim7 := { stood := { row := headsPartsUptoRow, standIns := [], harness := (true, "3d997823b73d27e65623beab8763e278d5dfdbde77e2d51ad811b5d1b8b3f37f"), looks := false }, kinds := [], alts := [], laidByText := true, laidKinds := [.data, .data, .data], laidTests := true, laidLooks := .later }
def HeadsPartsUptoCardSaid : Prop := Claim7.holds Tryz.pinned (.plain (OpenSpec.upto headsPartsSpec)) headsPartsUptoCard

/-- THE SECOND FORM's CARD OF 'bindlelaw14.ViewShows'. -/
def viewShowsUptoCard : Claim7 := { stood := { row := viewShowsUptoRow, standIns := [], harness := (true, "3d997823b73d27e65623beab8763e278d5dfdbde77e2d51ad811b5d1b8b3f37f"), looks := false }, kinds := [], alts := [], laidByText := true, laidKinds := [.data, .data, .data, .data], laidTests := true, laidLooks := .later }
def ViewShowsUptoCardSaid : Prop := Claim7.holds Tryz.pinned (.plain (OpenSpec.upto viewShowsSpec)) viewShowsUptoCard

/-- THE SECOND FORM's CARD OF 'bindlelaw14.ViewTrees'. -/
def viewTreesUptoCard : Claim7 := { stood := { row := viewTreesUptoRow, standIns := [], harness := (true, "3d997823b73d27e65623beab8763e278d5dfdbde77e2d51ad811b5d1b8b3f37f"), looks := false }, kinds := [], alts := [], laidByText := true, laidKinds := [.data, .data, .data, .data], laidTests := true, laidLooks := .later }
def ViewTreesUptoCardSaid : Prop := Claim7.holds Tryz.pinned (.plain (OpenSpec.upto viewTreesSpec)) viewTreesUptoCard

/-- THE SECOND FORM's CARD OF 'bindlelaw14.ViewAll'. -/
def viewAllUptoCard : Claim7 := { stood := { row := viewAllUptoRow, standIns := [], harness := (true, "3d997823b73d27e65623beab8763e278d5dfdbde77e2d51ad811b5d1b8b3f37f"), looks := false }, kinds := [], alts := [], laidByText := true, laidKinds := [.data, .data, .data, .data], laidTests := true, laidLooks := .later }
def ViewAllUptoCardSaid : Prop := Claim7.holds Tryz.pinned (.plain (OpenSpec.upto viewAllSpec)) viewAllUptoCard

/-- THE SECOND FORM's CARD OF 'bindlelaw14.ViewMain'. -/
def viewMainUptoCard : Claim7 := { stood := { row := viewMainUptoRow, standIns := [], harness := (true, "3d997823b73d27e65623beab8763e278d5dfdbde77e2d51ad811b5d1b8b3f37f"), looks := false }, kinds := [], alts := [], laidByText := true, laidKinds := [.data, .data, .data, .data], laidTests := true, laidLooks := .later }
def ViewMainUptoCardSaid : Prop := Claim7.holds Tryz.pinned (.plain (OpenSpec.upto viewMainSpec)) viewMainUptoCard

/-- THE SECOND FORM's CARD OF 'bindlelaw14.ViewRises'. -/
def viewRisesUptoCard : Claim7 := { stood := { row := viewRisesUptoRow, standIns := [], harness := (true, "3d997823b73d27e65623beab8763e278d5dfdbde77e2d51ad811b5d1b8b3f37f"), looks := false }, kinds := [], alts := [], laidByText := true, laidKinds := [.data, .data, .data, .data], laidTests := true, laidLooks := .later }
def ViewRisesUptoCardSaid : Prop := Claim7.holds Tryz.pinned (.plain (OpenSpec.upto viewRisesSpec)) viewRisesUptoCard
end Rows
end Go.Proofs.YtcdjkjadbhejpaaGreatDoor
