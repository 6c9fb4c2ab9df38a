/-
  DERIVED. GIVEN WITH THE SEED: THE CARDS: each row of YtlnafkcoicaefaaDoorRows.lean that lists a variable, with what it lists TIED to the program's text (the seventh form; the later family's looks); each row that meets fmt, with fmt's text TOLD by the authors' own Lean function (tested against real Go, not proved from fmt's source: count such statements apart). THE CARD IS WHAT COUNTS. Prove the row's statement (the work); the ties are given (YtlnafkcoicaefaaDoorTie.lean); close each card by the builder's one call (the guide's Derived/Test/ToyasCard.lean, 'card_holds'). Laid BY PROGRAM, IN A SANDBOX (cutbox-door.mjs). By AI agents, Wed Nov 11 2026. No macro, syntax, notation, axiom, sorry.
-/
import Derived.Test.YtlnafkcoicaefaaDoorRows
import GoSem.ClaimSeven
namespace Go.Proofs.YtlnafkcoicaefaaDoor
namespace Rows

/-- THE TIED CARD OF 'matinslaw05.ZoneInstants'. -/
def zoneInstantsCard : Claim7 := { stood := { row := zoneInstantsRow, standIns := [], harness := (true, "4649a7eb927cbecfd60d0abb4fb0bd2a3a27ade9ecb58952d5d5fc671240b86e"), looks := false }, kinds := [], alts := [], laidByText := true, laidKinds := [.data], laidTests := true, laidLooks := .later }
def ZoneInstantsCardSaid : Prop := Claim7.holds Tryd.pinned (.plain (OpenSpec.ofChange zoneInstantsSpec)) zoneInstantsCard

/-- THE TIED CARD OF 'matinslaw05.ZoneBack'. -/
def zoneBackCard : Claim7 := { stood := { row := zoneBackRow, standIns := [], harness := (true, "4649a7eb927cbecfd60d0abb4fb0bd2a3a27ade9ecb58952d5d5fc671240b86e"), looks := false }, kinds := [], alts := [], laidByText := true, laidKinds := [.data], laidTests := true, laidLooks := .later }
def ZoneBackCardSaid : Prop := Claim7.holds Tryd.pinned (.plain (OpenSpec.ofChange zoneBackSpec)) zoneBackCard

/-- THE TIED CARD OF 'matinslaw05.ZoneNames'. -/
def zoneNamesCard : Claim7 := { stood := { row := zoneNamesRow, standIns := [], harness := (true, "4649a7eb927cbecfd60d0abb4fb0bd2a3a27ade9ecb58952d5d5fc671240b86e"), looks := false }, kinds := [], alts := [], laidByText := true, laidKinds := [.data], laidTests := true, laidLooks := .later }
def ZoneNamesCardSaid : Prop := Claim7.holds Tryd.pinned (.plain (OpenSpec.ofChange zoneNamesSpec)) zoneNamesCard

/-- THE TIED CARD OF 'matinslaw05.ZoneTurns'. -/
def zoneTurnsCard : Claim7 := { stood := { row := zoneTurnsRow, standIns := [], harness := (true, "4649a7eb927cbecfd60d0abb4fb0bd2a3a27ade9ecb58952d5d5fc671240b86e"), looks := false }, kinds := [], alts := [], laidByText := true, laidKinds := [.data], laidTests := true, laidLooks := .later }
def ZoneTurnsCardSaid : Prop := Claim7.holds Tryd.pinned (.plain (OpenSpec.ofChange zoneTurnsSpec)) zoneTurnsCard

/-- THE TIED CARD OF 'matinslaw05.ZoneDay'. -/
def zoneDayCard : Claim7 := { stood := { row := zoneDayRow, standIns := [], harness := (true, "4649a7eb927cbecfd60d0abb4fb0bd2a3a27ade9ecb58952d5d5fc671240b86e"), looks := false }, kinds := [], alts := [], laidByText := true, laidKinds := [.data], laidTests := true, laidLooks := .later }
def ZoneDayCardSaid : Prop := Claim7.holds Tryd.pinned (.plain (OpenSpec.ofChange zoneDaySpec)) zoneDayCard

/-- THE SECOND FORM's CARD OF 'matinslaw05.ZoneInstants'. -/
def zoneInstantsUptoCard : Claim7 := { stood := { row := zoneInstantsUptoRow, standIns := [], harness := (true, "4649a7eb927cbecfd60d0abb4fb0bd2a3a27ade9ecb58952d5d5fc671240b86e"), looks := false }, kinds := [], alts := [], laidByText := true, laidKinds := [.data], laidTests := true, laidLooks := .later }
def ZoneInstantsUptoCardSaid : Prop := Claim7.holds Tryd.pinned (.plain (OpenSpec.upto zoneInstantsSpec)) zoneInstantsUptoCard

/-- THE SECOND FORM's CARD OF 'matinslaw05.ZoneBack'. -/
def zoneBackUptoCard : Claim7 := { stood := { row := zoneBackUptoRow, standIns := [], harness := (true, "4649a7eb927cbecfd60d0abb4fb0bd2a3a27ade9ecb58952d5d5fc671240b86e"), looks := false }, kinds := [], alts := [], laidByText := true, laidKinds := [.data], laidTests := true, laidLooks := .later }
def ZoneBackUptoCardSaid : Prop := Claim7.holds Tryd.pinned (.plain (OpenSpec.upto zoneBackSpec)) zoneBackUptoCard

/-- THE SECOND FORM's CARD OF 'matinslaw05.ZoneNames'. -/
def zoneNamesUptoCard : Claim7 := { stood := { row := zoneNamesUptoRow, standIns := [], harness := (true, "4649a7eb927cbecfd60d0abb4fb0bd2a3a27ade9ecb58952d5d5fc671240b86e"), looks := false }, kinds := [], alts := [], laidByText := true, laidKinds := [.data], laidTests := true, laidLooks := .later }
def ZoneNamesUptoCardSaid : Prop := Claim7.holds Tryd.pinned (.plain (OpenSpec.upto zoneNamesSpec)) zoneNamesUptoCard

/-- THE SECOND FORM's CARD OF 'matinslaw05.ZoneTurns'. -/
def zoneTurnsUptoCard : Claim7 := { stood := { row := zoneTurnsUptoRow, standIns := [], harness := (true, "4649a7eb927cbecfd60d0abb4fb0bd2a3a27ade9ecb58952d5d5fc671240b86e"), looks := false }, kinds := [], alts := [], laidByText := true, laidKinds := [.data], laidTests := true, laidLooks := .later }
def ZoneTurnsUptoCardSaid : Prop := Claim7.holds Tryd.pinned (.plain (OpenSpec.upto zoneTurnsSpec)) zoneTurnsUptoCard

/-- THE SECOND FORM's CARD OF 'matinslaw05.ZoneDay'. -/
def zoneDayUptoCard : Claim7 := { stood := { row := zoneDayUptoRow, standIns := [], harness := (true, "4649a7eb927cbecfd60d0abb4fb0bd2a3a27ade9ecb58952d5d5fc671240b86e"), looks := false }, kinds := [], alts := [], laidByText := true, laidKinds := [.data], laidTests := true, laidLooks := .later }
def ZoneDayUptoCardSaid : Prop := Claim7.holds Tryd.pinned (.plain (OpenSpec.upto zoneDaySpec)) zoneDayUptoCard
end Rows
end Go.Proofs.YtlnafkcoicaefaaDoor
