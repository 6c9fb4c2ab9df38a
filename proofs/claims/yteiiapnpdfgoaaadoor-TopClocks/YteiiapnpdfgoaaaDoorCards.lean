/-
  DERIVED. GIVEN WITH THE SEED: THE CARDS: each row of YteiiapnpdfgoaaaDoorRows.lean that lists a variable, with what it lists TIED to the program's text (the seventh form; the later family's looks); each row that meets fmt, with fmt's text TOLD by the authors' own Lean function (tested against real Go, not proved from fmt's source: count such statements apart). THE CARD IS WHAT COUNTS. Prove the row's statement (the work); the ties are given (YteiiapnpdfgoaaaDoorTie.lean); close each card by the builder's one call (the guide's Derived/Test/ToyasCard.lean, 'card_holds'). Laid BY PROGRAM, IN A SANDBOX (cutbox-door.mjs). By AI agents, Wed Nov 11 2026. No macro, syntax, notation, axiom, sorry.
-/
import Derived.Test.YteiiapnpdfgoaaaDoorRows
import GoSem.ClaimSeven
namespace Go.Proofs.YteiiapnpdfgoaaaDoor
namespace Rows

/-- THE TIED CARD OF 'matinstop.TopShift'. -/
def topShiftCard : Claim7 := { stood := { row := topShiftRow, standIns := [], harness := (true, "319a3f48d7c73fa4f8db6c4e56d1dabe76e7ebab49fc6fcea037235067491b6f"), looks := false }, kinds := [], alts := [], laidByText := true, laidKinds := [.data, .data, .wider, .pinned], laidTests := true, laidLooks := .later }
def TopShiftCardSaid : Prop := Claim7.holds Tryd.pinned (.plain (OpenSpec.ofChange topShiftSpec)) topShiftCard

/-- THE TIED CARD OF 'matinstop.TopClocks'. -/
def topClocksCard : Claim7 := { stood := { row := topClocksRow, standIns := [], harness := (true, "319a3f48d7c73fa4f8db6c4e56d1dabe76e7ebab49fc6fcea037235067491b6f"), looks := false }, kinds := [], alts := [], laidByText := true, laidKinds := [.data, .data, .wider, .pinned], laidTests := true, laidLooks := .later }
def TopClocksCardSaid : Prop := Claim7.holds Tryd.pinned (.plain (OpenSpec.ofChange topClocksSpec)) topClocksCard

/-- THE TIED CARD OF 'matinstop.TopLeap'. -/
def topLeapCard : Claim7 := { stood := { row := topLeapRow, standIns := [], harness := (true, "319a3f48d7c73fa4f8db6c4e56d1dabe76e7ebab49fc6fcea037235067491b6f"), looks := false }, kinds := [], alts := [], laidByText := true, laidKinds := [.data, .data, .wider, .pinned], laidTests := true, laidLooks := .later }
def TopLeapCardSaid : Prop := Claim7.holds Tryd.pinned (.plain (OpenSpec.ofChange topLeapSpec)) topLeapCard

/-- THE SECOND FORM's CARD OF 'matinstop.TopShift'. -/
def topShiftUptoCard : Claim7 := { stood := { row := topShiftUptoRow, standIns := [], harness := (true, "319a3f48d7c73fa4f8db6c4e56d1dabe76e7ebab49fc6fcea037235067491b6f"), looks := false }, kinds := [], alts := [], laidByText := true, laidKinds := [.data, .data, .wider, .pinned], laidTests := true, laidLooks := .later }
def TopShiftUptoCardSaid : Prop := Claim7.holds Tryd.pinned (.plain (OpenSpec.upto topShiftSpec)) topShiftUptoCard

/-- THE SECOND FORM's CARD OF 'matinstop.TopClocks'. -/
def topClocksUptoCard : Claim7 := { stood := { row := topClocksUptoRow, standIns := [], harness := (true, "319a3f48d7c73fa4f8db6c4e56d1dabe76e7ebab49fc6fcea037235067491b6f"), looks := false }, kinds := [], alts := [], laidByText := true, laidKinds := [.data, .data, .wider, .pinned], laidTests := true, laidLooks := .later }
def TopClocksUptoCardSaid : Prop := Claim7.holds Tryd.pinned (.plain (OpenSpec.upto topClocksSpec)) topClocksUptoCard

/-- THE SECOND FORM's CARD OF 'matinstop.TopLeap'. -/
def topLeapUptoCard : Claim7 := { stood := { row := topLeapUptoRow, standIns := [], harness := (true, "319a3f48d7c73fa4f8db6c4e56d1dabe76e7ebab49fc6fcea037235067491b6f"), looks := false }, kinds := [], alts := [], laidByText := true, laidKinds := [.data, .data, .wider, .pinned], laidTests := true, laidLooks := .later }
def TopLeapUptoCardSaid : Prop := Claim7.holds Tryd.pinned (.plain (OpenSpec.upto topLeapSpec)) topLeapUptoCard
end Rows
end Go.Proofs.YteiiapnpdfgoaaaDoor
