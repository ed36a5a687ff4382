/-
  DERIVED. GIVEN WITH THE SEED: THE CARDS: each row of YtppmbdpfledejaaGreatDoorRows.lean that lists a variable, with what it lists TIED to the program's text (the seventh form; the later family's looks); each row that meets fmt, with fmt's text TOLD by the authors' own Lean function (tested against real Go, not proved from fmt's source: count such statements apart). THE CARD IS WHAT COUNTS. Prove the row's statement (the work); the ties are given (YtppmbdpfledejaaGreatDoorTie.lean); close each card by the builder's one call (the guide's Derived/Test/ToyasCard.lean, 'card_holds'). Laid BY PROGRAM, IN A SANDBOX (cutbox-door.mjs). By AI agents, Wed Nov 11 2026. No macro, syntax, notation, axiom, sorry.
-/
import Derived.Test.YtppmbdpfledejaaGreatDoorRows
import GoSem.ClaimSeven
namespace Go.Proofs.YtppmbdpfledejaaGreatDoor
namespace Rows

/-- THE TIED CARD OF 'bindlelaw14.ViewShows'. -/
def viewShowsCard : Claim7 := { stood := { row := viewShowsRow, standIns := [], harness := (true, "b4ceb68add59d59395251be256626e2d5545992178e1af8cf5955a1dc1aa659a"), looks := false }, kinds := [], alts := [], laidByText := true, laidKinds := [.data, .data, .data, .data], laidTests := true, laidLooks := .later }
def ViewShowsCardSaid : Prop := Claim7.holds Tryz.pinned (.plain (OpenSpec.ofChange viewShowsSpec)) viewShowsCard

/-- THE TIED CARD OF 'bindlelaw14.ViewTrees'. -/
def viewTreesCard : Claim7 := { stood := { row := viewTreesRow, standIns := [], harness := (true, "b4ceb68add59d59395251be256626e2d5545992178e1af8cf5955a1dc1aa659a"), looks := false }, kinds := [], alts := [], laidByText := true, laidKinds := [.data, .data, .data, .data], laidTests := true, laidLooks := .later }
def ViewTreesCardSaid : Prop := Claim7.holds Tryz.pinned (.plain (OpenSpec.ofChange viewTreesSpec)) viewTreesCard

/-- THE TIED CARD OF 'bindlelaw15.DiffScans'. -/
def diffScansCard : Claim7 := { stood := { row := diffScansRow, standIns := [], harness := (true, "b4ceb68add59d59395251be256626e2d5545992178e1af8cf5955a1dc1aa659a"), looks := false }, kinds := [], alts := [], laidByText := true, laidKinds := [.data, .data, .data, .data], laidTests := true, laidLooks := .later }
def DiffScansCardSaid : Prop := Claim7.holds Tryz.pinned (.plain (OpenSpec.ofChange diffScansSpec)) diffScansCard

/-- THE TIED CARD OF 'bindlelaw15.DiffNone'. -/
def diffNoneCard : Claim7 := { stood := { row := diffNoneRow, standIns := [], harness := (true, "b4ceb68add59d59395251be256626e2d5545992178e1af8cf5955a1dc1aa659a"), looks := false }, kinds := [], alts := [], laidByText := true, laidKinds := [.data, .data, .data, .data], laidTests := true, laidLooks := .later }
def DiffNoneCardSaid : Prop := Claim7.holds Tryz.pinned (.plain (OpenSpec.ofChange diffNoneSpec)) diffNoneCard

/-- THE SECOND FORM's CARD OF 'bindlelaw14.ViewShows'. -/
def viewShowsUptoCard : Claim7 := { stood := { row := viewShowsUptoRow, standIns := [], harness := (true, "b4ceb68add59d59395251be256626e2d5545992178e1af8cf5955a1dc1aa659a"), looks := false }, kinds := [], alts := [], laidByText := true, laidKinds := [.data, .data, .data, .data], laidTests := true, laidLooks := .later }
def ViewShowsUptoCardSaid : Prop := Claim7.holds Tryz.pinned (.plain (OpenSpec.upto viewShowsSpec)) viewShowsUptoCard

/-- THE SECOND FORM's CARD OF 'bindlelaw14.ViewTrees'. -/
def viewTreesUptoCard : Claim7 := { stood := { row := viewTreesUptoRow, standIns := [], harness := (true, "b4ceb68add59d59395251be256626e2d5545992178e1af8cf5955a1dc1aa659a"), looks := false }, kinds := [], alts := [], laidByText := true, laidKinds := [.data, .data, .data, .data], laidTests := true, laidLooks := .later }
def ViewTreesUptoCardSaid : Prop := Claim7.holds Tryz.pinned (.plain (OpenSpec.upto viewTreesSpec)) viewTreesUptoCard

/-- THE SECOND FORM's CARD OF 'bindlelaw15.DiffScans'. -/
def diffScansUptoCard : Claim7 := { stood := { row := diffScansUptoRow, standIns := [], harness := (true, "b4ceb68add59d59395251be256626e2d5545992178e1af8cf5955a1dc1aa659a"), looks := false }, kinds := [], alts := [], laidByText := true, laidKinds := [.data, .data, .data, .data], laidTests := true, laidLooks := .later }
def DiffScansUptoCardSaid : Prop := Claim7.holds Tryz.pinned (.plain (OpenSpec.upto diffScansSpec)) diffScansUptoCard

/-- THE SECOND FORM's CARD OF 'bindlelaw15.DiffNone'. -/
def diffNoneUptoCard : Claim7 := { stood := { row := diffNoneUptoRow, standIns := [], harness := (true, "b4ceb68add59d59395251be256626e2d5545992178e1af8cf5955a1dc1aa659a"), looks := false }, kinds := [], alts := [], laidByText := true, laidKinds := [.data, .data, .data, .data], laidTests := true, laidLooks := .later }
def DiffNoneUptoCardSaid : Prop := Claim7.holds Tryz.pinned (.plain (OpenSpec.upto diffNoneSpec)) diffNoneUptoCard
end Rows
end Go.Proofs.YtppmbdpfledejaaGreatDoor
