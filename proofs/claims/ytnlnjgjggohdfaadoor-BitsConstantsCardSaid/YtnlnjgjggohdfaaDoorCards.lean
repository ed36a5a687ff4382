/-
  DERIVED. GIVEN WITH THE SEED: THE CARDS: each row of YtnlnjgjggohdfaaDoorRows.lean that lists a variable, with what it lists TIED to the program's text (the seventh form; the later family's looks); each row that meets fmt, with fmt's text TOLD by the authors' own Lean function (tested against real Go, not proved from fmt's source: count such statements apart). THE CARD IS WHAT COUNTS. Prove the row's statement (the work); the ties are given (YtnlnjgjggohdfaaDoorTie.lean); close each card by the builder's one call (the guide's Derived/Test/ToyasCard.lean, 'card_holds'). Laid BY PROGRAM, IN A SANDBOX (cutbox-door.mjs). By AI agents, Wed Nov 11 2026. No macro, syntax, notation, axiom, sorry.
-/
import Derived.Test.YtnlnjgjggohdfaaDoorRows
import GoSem.ClaimSeven
namespace Go.Proofs.YtnlnjgjggohdfaaDoor
namespace Rows

/-- THE TIED CARD OF 'bindlelaw01.BitsTurns'. -/
def bitsTurnsCard : Claim7 := { stood := { row := bitsTurnsRow, standIns := [], harness := (true, "aeb3d0f12ef964fa5d4d21d2cb6c6def2b1d42455c601c078091683841d0d3f0"), looks := false }, kinds := [], alts := [], laidByText := true, laidKinds := [.data], laidTests := true, laidLooks := .later }
def BitsTurnsCardSaid : Prop := Claim7.holds Tryd.pinned (.plain (OpenSpec.ofChange bitsTurnsSpec)) bitsTurnsCard

/-- THE TIED CARD OF 'bindlelaw01.BitsSigmas'. -/
def bitsSigmasCard : Claim7 := { stood := { row := bitsSigmasRow, standIns := [], harness := (true, "aeb3d0f12ef964fa5d4d21d2cb6c6def2b1d42455c601c078091683841d0d3f0"), looks := false }, kinds := [], alts := [], laidByText := true, laidKinds := [.data], laidTests := true, laidLooks := .later }
def BitsSigmasCardSaid : Prop := Claim7.holds Tryd.pinned (.plain (OpenSpec.ofChange bitsSigmasSpec)) bitsSigmasCard

/-- THE TIED CARD OF 'bindlelaw01.BitsConstants'. -/
def bitsConstantsCard : Claim7 := { stood := { row := bitsConstantsRow, standIns := [], harness := (true, "aeb3d0f12ef964fa5d4d21d2cb6c6def2b1d42455c601c078091683841d0d3f0"), looks := false }, kinds := [], alts := [], laidByText := true, laidKinds := [.data], laidTests := true, laidLooks := .later }
def BitsConstantsCardSaid : Prop := Claim7.holds Tryd.pinned (.plain (OpenSpec.ofChange bitsConstantsSpec)) bitsConstantsCard

/-- THE TIED CARD OF 'bindlelaw01.BitsAdds'. -/
def bitsAddsCard : Claim7 := { stood := { row := bitsAddsRow, standIns := [], harness := (true, "aeb3d0f12ef964fa5d4d21d2cb6c6def2b1d42455c601c078091683841d0d3f0"), looks := false }, kinds := [], alts := [], laidByText := true, laidKinds := [.data], laidTests := true, laidLooks := .later }
def BitsAddsCardSaid : Prop := Claim7.holds Tryd.pinned (.plain (OpenSpec.ofChange bitsAddsSpec)) bitsAddsCard

/-- THE TIED CARD OF 'bindlelaw01.BitsBack'. -/
def bitsBackCard : Claim7 := { stood := { row := bitsBackRow, standIns := [], harness := (true, "aeb3d0f12ef964fa5d4d21d2cb6c6def2b1d42455c601c078091683841d0d3f0"), looks := false }, kinds := [], alts := [], laidByText := true, laidKinds := [.data], laidTests := true, laidLooks := .later }
def BitsBackCardSaid : Prop := Claim7.holds Tryd.pinned (.plain (OpenSpec.ofChange bitsBackSpec)) bitsBackCard

/-- THE TIED CARD OF 'bindlelaw01.BitsChoice'. -/
def bitsChoiceCard : Claim7 := { stood := { row := bitsChoiceRow, standIns := [], harness := (true, "aeb3d0f12ef964fa5d4d21d2cb6c6def2b1d42455c601c078091683841d0d3f0"), looks := false }, kinds := [], alts := [], laidByText := true, laidKinds := [.data], laidTests := true, laidLooks := .later }
def BitsChoiceCardSaid : Prop := Claim7.holds Tryd.pinned (.plain (OpenSpec.ofChange bitsChoiceSpec)) bitsChoiceCard

/-- THE SECOND FORM's CARD OF 'bindlelaw01.BitsTurns'. -/
def bitsTurnsUptoCard : Claim7 := { stood := { row := bitsTurnsUptoRow, standIns := [], harness := (true, "aeb3d0f12ef964fa5d4d21d2cb6c6def2b1d42455c601c078091683841d0d3f0"), looks := false }, kinds := [], alts := [], laidByText := true, laidKinds := [.data], laidTests := true, laidLooks := .later }
def BitsTurnsUptoCardSaid : Prop := Claim7.holds Tryd.pinned (.plain (OpenSpec.upto bitsTurnsSpec)) bitsTurnsUptoCard

/-- THE SECOND FORM's CARD OF 'bindlelaw01.BitsSigmas'. -/
def bitsSigmasUptoCard : Claim7 := { stood := { row := bitsSigmasUptoRow, standIns := [], harness := (true, "aeb3d0f12ef964fa5d4d21d2cb6c6def2b1d42455c601c078091683841d0d3f0"), looks := false }, kinds := [], alts := [], laidByText := true, laidKinds := [.data], laidTests := true, laidLooks := .later }
def BitsSigmasUptoCardSaid : Prop := Claim7.holds Tryd.pinned (.plain (OpenSpec.upto bitsSigmasSpec)) bitsSigmasUptoCard

/-- THE SECOND FORM's CARD OF 'bindlelaw01.BitsConstants'. -/
def bitsConstantsUptoCard : Claim7 := { stood := { row := bitsConstantsUptoRow, standIns := [], harness := (true, "aeb3d0f12ef964fa5d4d21d2cb6c6def2b1d42455c601c078091683841d0d3f0"), looks := false }, kinds := [], alts := [], laidByText := true, laidKinds := [.data], laidTests := true, laidLooks := .later }
def BitsConstantsUptoCardSaid : Prop := Claim7.holds Tryd.pinned (.plain (OpenSpec.upto bitsConstantsSpec)) bitsConstantsUptoCard

/-- THE SECOND FORM's CARD OF 'bindlelaw01.BitsAdds'. -/
def bitsAddsUptoCard : Claim7 := { stood := { row := bitsAddsUptoRow, standIns := [], harness := (true, "aeb3d0f12ef964fa5d4d21d2cb6c6def2b1d42455c601c078091683841d0d3f0"), looks := false }, kinds := [], alts := [], laidByText := true, laidKinds := [.data], laidTests := true, laidLooks := .later }
def BitsAddsUptoCardSaid : Prop := Claim7.holds Tryd.pinned (.plain (OpenSpec.upto bitsAddsSpec)) bitsAddsUptoCard

/-- THE SECOND FORM's CARD OF 'bindlelaw01.BitsBack'. -/
def bitsBackUptoCard : Claim7 := { stood := { row := bitsBackUptoRow, standIns := [], harness := (true, "aeb3d0f12ef964fa5d4d21d2cb6c6def2b1d42455c601c078091683841d0d3f0"), looks := false }, kinds := [], alts := [], laidByText := true, laidKinds := [.data], laidTests := true, laidLooks := .later }
def BitsBackUptoCardSaid : Prop := Claim7.holds Tryd.pinned (.plain (OpenSpec.upto bitsBackSpec)) bitsBackUptoCard

/-- THE SECOND FORM's CARD OF 'bindlelaw01.BitsChoice'. -/
def bitsChoiceUptoCard : Claim7 := { stood := { row := bitsChoiceUptoRow, standIns := [], harness := (true, "aeb3d0f12ef964fa5d4d21d2cb6c6def2b1d42455c601c078091683841d0d3f0"), looks := false }, kinds := [], alts := [], laidByText := true, laidKinds := [.data], laidTests := true, laidLooks := .later }
def BitsChoiceUptoCardSaid : Prop := Claim7.holds Tryd.pinned (.plain (OpenSpec.upto bitsChoiceSpec)) bitsChoiceUptoCard
end Rows
end Go.Proofs.YtnlnjgjggohdfaaDoor
