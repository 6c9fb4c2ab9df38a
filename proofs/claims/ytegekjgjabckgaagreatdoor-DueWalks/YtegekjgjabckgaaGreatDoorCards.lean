/-
  DERIVED. GIVEN WITH THE SEED: THE CARDS: each row of YtegekjgjabckgaaGreatDoorRows.lean that lists a variable, with what it lists TIED to the program's text (the seventh form; the later family's looks); each row that meets fmt, with fmt's text TOLD by the authors' own Lean function (tested against real Go, not proved from fmt's source: count such statements apart). THE CARD IS WHAT COUNTS. Prove the row's statement (the work); the ties are given (YtegekjgjabckgaaGreatDoorTie.lean); close each card by the builder's one call (the guide's Derived/Test/ToyasCard.lean, 'card_holds'). Laid BY PROGRAM, IN A SANDBOX (cutbox-door.mjs). By AI agents, Wed Nov 11 2026. No macro, syntax, notation, axiom, sorry.
-/
import Derived.Test.YtegekjgjabckgaaGreatDoorRows
import GoSem.ClaimSeven
namespace Go.Proofs.YtegekjgjabckgaaGreatDoor
namespace Rows

/-- THE TIED CARD OF 'matinslaw07.DueNexts'. -/
def dueNextsCard : Claim7 := { stood := { row := dueNextsRow, standIns := [], harness := (true, "97999c90ca85ade3bcfb5dff8eba7b1b3c951ca7e2dba8ac5aeec2c33d3b2d59"), looks := false }, kinds := [], alts := [], laidByText := true, laidKinds := [.data, .data, .wider, .pinned], laidTests := true, laidLooks := .later }
def DueNextsCardSaid : Prop := Claim7.holds Tryz.pinned (.plain (OpenSpec.ofChange dueNextsSpec)) dueNextsCard

/-- THE TIED CARD OF 'matinslaw07.DueBetween'. -/
def dueBetweenCard : Claim7 := { stood := { row := dueBetweenRow, standIns := [], harness := (true, "97999c90ca85ade3bcfb5dff8eba7b1b3c951ca7e2dba8ac5aeec2c33d3b2d59"), looks := false }, kinds := [], alts := [], laidByText := true, laidKinds := [.data, .data, .wider, .pinned], laidTests := true, laidLooks := .later }
def DueBetweenCardSaid : Prop := Claim7.holds Tryz.pinned (.plain (OpenSpec.ofChange dueBetweenSpec)) dueBetweenCard

/-- THE TIED CARD OF 'matinslaw07.DueFirst'. -/
def dueFirstCard : Claim7 := { stood := { row := dueFirstRow, standIns := [], harness := (true, "97999c90ca85ade3bcfb5dff8eba7b1b3c951ca7e2dba8ac5aeec2c33d3b2d59"), looks := false }, kinds := [], alts := [], laidByText := true, laidKinds := [.data, .data, .wider, .pinned], laidTests := true, laidLooks := .later }
def DueFirstCardSaid : Prop := Claim7.holds Tryz.pinned (.plain (OpenSpec.ofChange dueFirstSpec)) dueFirstCard

/-- THE TIED CARD OF 'matinslaw07.DueWalks'. -/
def dueWalksCard : Claim7 := { stood := { row := dueWalksRow, standIns := [], harness := (true, "97999c90ca85ade3bcfb5dff8eba7b1b3c951ca7e2dba8ac5aeec2c33d3b2d59"), looks := false }, kinds := [], alts := [], laidByText := true, laidKinds := [.data, .data, .wider, .pinned], laidTests := true, laidLooks := .later }
def DueWalksCardSaid : Prop := Claim7.holds Tryz.pinned (.plain (OpenSpec.ofChange dueWalksSpec)) dueWalksCard

/-- THE TIED CARD OF 'matinslaw07.DueRises'. -/
def dueRisesCard : Claim7 := { stood := { row := dueRisesRow, standIns := [], harness := (true, "97999c90ca85ade3bcfb5dff8eba7b1b3c951ca7e2dba8ac5aeec2c33d3b2d59"), looks := false }, kinds := [], alts := [], laidByText := true, laidKinds := [.data, .data, .wider, .pinned], laidTests := true, laidLooks := .later }
def DueRisesCardSaid : Prop := Claim7.holds Tryz.pinned (.plain (OpenSpec.ofChange dueRisesSpec)) dueRisesCard

/-- THE TIED CARD OF 'matinslaw07.DueUnion'. -/
def dueUnionCard : Claim7 := { stood := { row := dueUnionRow, standIns := [], harness := (true, "97999c90ca85ade3bcfb5dff8eba7b1b3c951ca7e2dba8ac5aeec2c33d3b2d59"), looks := false }, kinds := [], alts := [], laidByText := true, laidKinds := [.data, .data, .wider, .pinned], laidTests := true, laidLooks := .later }
def DueUnionCardSaid : Prop := Claim7.holds Tryz.pinned (.plain (OpenSpec.ofChange dueUnionSpec)) dueUnionCard

/-- THE SECOND FORM's CARD OF 'matinslaw07.DueNexts'. -/
def dueNextsUptoCard : Claim7 := { stood := { row := dueNextsUptoRow, standIns := [], harness := (true, "97999c90ca85ade3bcfb5dff8eba7b1b3c951ca7e2dba8ac5aeec2c33d3b2d59"), looks := false }, kinds := [], alts := [], laidByText := true, laidKinds := [.data, .data, .wider, .pinned], laidTests := true, laidLooks := .later }
def DueNextsUptoCardSaid : Prop := Claim7.holds Tryz.pinned (.plain (OpenSpec.upto dueNextsSpec)) dueNextsUptoCard

/-- THE SECOND FORM's CARD OF 'matinslaw07.DueBetween'. -/
def dueBetweenUptoCard : Claim7 := { stood := { row := dueBetweenUptoRow, standIns := [], harness := (true, "97999c90ca85ade3bcfb5dff8eba7b1b3c951ca7e2dba8ac5aeec2c33d3b2d59"), looks := false }, kinds := [], alts := [], laidByText := true, laidKinds := [.data, .data, .wider, .pinned], laidTests := true, laidLooks := .later }
def DueBetweenUptoCardSaid : Prop := Claim7.holds Tryz.pinned (.plain (OpenSpec.upto dueBetweenSpec)) dueBetweenUptoCard

/-- THE SECOND FORM's CARD OF 'matinslaw07.DueFirst'. -/
def dueFirstUptoCard : Claim7 := { stood := { row := dueFirstUptoRow, standIns := [], harness := (true, "97999c90ca85ade3bcfb5dff8eba7b1b3c951ca7e2dba8ac5aeec2c33d3b2d59"), looks := false }, kinds := [], alts := [], laidByText := true, laidKinds := [.data, .data, .wider, .pinned], laidTests := true, laidLooks := .later }
def DueFirstUptoCardSaid : Prop := Claim7.holds Tryz.pinned (.plain (OpenSpec.upto dueFirstSpec)) dueFirstUptoCard

/-- THE SECOND FORM's CARD OF 'matinslaw07.DueWalks'. -/
def dueWalksUptoCard : Claim7 := { stood := { row := dueWalksUptoRow, standIns := [], harness := (true, "97999c90ca85ade3bcfb5dff8eba7b1b3c951ca7e2dba8ac5aeec2c33d3b2d59"), looks := false }, kinds := [], alts := [], laidByText := true, laidKinds := [.data, .data, .wider, .pinned], laidTests := true, laidLooks := .later }
def DueWalksUptoCardSaid : Prop := Claim7.holds Tryz.pinned (.plain (OpenSpec.upto dueWalksSpec)) dueWalksUptoCard

/-- THE SECOND FORM's CARD OF 'matinslaw07.DueRises'. -/
def dueRisesUptoCard : Claim7 := { stood := { row := dueRisesUptoRow, standIns := [], harness := (true, "97999c90ca85ade3bcfb5dff8eba7b1b3c951ca7e2dba8ac5aeec2c33d3b2d59"), looks := false }, kinds := [], alts := [], laidByText := true, laidKinds := [.data, .data, .wider, .pinned], laidTests := true, laidLooks := .later }
def DueRisesUptoCardSaid : Prop := Claim7.holds Tryz.pinned (.plain (OpenSpec.upto dueRisesSpec)) dueRisesUptoCard

/-- THE SECOND FORM's CARD OF 'matinslaw07.DueUnion'. -/
def dueUnionUptoCard : Claim7 := { stood := { row := dueUnionUptoRow, standIns := [], harness := (true, "97999c90ca85ade3bcfb5dff8eba7b1b3c951ca7e2dba8ac5aeec2c33d3b2d59"), looks := false }, kinds := [], alts := [], laidByText := true, laidKinds := [.data, .data, .wider, .pinned], laidTests := true, laidLooks := .later }
def DueUnionUptoCardSaid : Prop := Claim7.holds Tryz.pinned (.plain (OpenSpec.upto dueUnionSpec)) dueUnionUptoCard
end Rows
end Go.Proofs.YtegekjgjabckgaaGreatDoor
