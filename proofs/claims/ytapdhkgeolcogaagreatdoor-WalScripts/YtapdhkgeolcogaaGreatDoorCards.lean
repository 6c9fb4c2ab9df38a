/-
  DERIVED. GIVEN WITH THE SEED: THE CARDS: each row of YtapdhkgeolcogaaGreatDoorRows.lean that lists a variable, with what it lists TIED to the program's text (the seventh form; the later family's looks); each row that meets fmt, with fmt's text TOLD by the authors' own Lean function (tested against real Go, not proved from fmt's source: count such statements apart). THE CARD IS WHAT COUNTS. Prove the row's statement (the work); the ties are given (YtapdhkgeolcogaaGreatDoorTie.lean); close each card by the builder's one call (the guide's Derived/Test/ToyasCard.lean, 'card_holds'). Laid BY PROGRAM, IN A SANDBOX (cutbox-door.mjs). By AI agents, Wed Nov 11 2026. No macro, syntax, notation, axiom, sorry.
-/
import Derived.Test.YtapdhkgeolcogaaGreatDoorRows
import GoSem.ClaimSeven
namespace Go.Proofs.YtapdhkgeolcogaaGreatDoor
namespace Rows

/-- THE TIED CARD OF 'matinslaw10.WalScripts'. -/
def walScriptsCard : Claim7 := { stood := { row := walScriptsRow, standIns := [], harness := (true, "86ddbfc19172b75d82cb2c2491c37b816b7daeed59914a75aab0d96725910854"), looks := true }, kinds := [], alts := [], laidByText := true, laidKinds := [.data, .data, .data, .sentinel, .sentinel], laidTests := true, laidLooks := .later }
def WalScriptsCardSaid : Prop := Claim7.holds Tryz.pinned (.plain (OpenSpec.ofChange walScriptsSpec)) walScriptsCard

/-- THE TIED CARD OF 'matinslaw10.WalKeeps'. -/
def walKeepsCard : Claim7 := { stood := { row := walKeepsRow, standIns := [], harness := (true, "86ddbfc19172b75d82cb2c2491c37b816b7daeed59914a75aab0d96725910854"), looks := true }, kinds := [], alts := [], laidByText := true, laidKinds := [.data, .data, .data, .sentinel, .sentinel], laidTests := true, laidLooks := .later }
def WalKeepsCardSaid : Prop := Claim7.holds Tryz.pinned (.plain (OpenSpec.ofChange walKeepsSpec)) walKeepsCard

/-- THE TIED CARD OF 'matinslaw10.WalAgain'. -/
def walAgainCard : Claim7 := { stood := { row := walAgainRow, standIns := [], harness := (true, "86ddbfc19172b75d82cb2c2491c37b816b7daeed59914a75aab0d96725910854"), looks := true }, kinds := [], alts := [], laidByText := true, laidKinds := [.data, .data, .data, .sentinel, .sentinel], laidTests := true, laidLooks := .later }
def WalAgainCardSaid : Prop := Claim7.holds Tryz.pinned (.plain (OpenSpec.ofChange walAgainSpec)) walAgainCard

/-- THE TIED CARD OF 'matinslaw10.WalLays'. -/
def walLaysCard : Claim7 := { stood := { row := walLaysRow, standIns := [], harness := (true, "86ddbfc19172b75d82cb2c2491c37b816b7daeed59914a75aab0d96725910854"), looks := true }, kinds := [], alts := [], laidByText := true, laidKinds := [.data, .data, .data, .sentinel, .sentinel], laidTests := true, laidLooks := .later }
def WalLaysCardSaid : Prop := Claim7.holds Tryz.pinned (.plain (OpenSpec.ofChange walLaysSpec)) walLaysCard

/-- THE TIED CARD OF 'matinstop.TopTwice'. -/
def topTwiceCard : Claim7 := { stood := { row := topTwiceRow, standIns := [], harness := (true, "86ddbfc19172b75d82cb2c2491c37b816b7daeed59914a75aab0d96725910854"), looks := true }, kinds := [], alts := [], laidByText := true, laidKinds := [.data, .data, .data, .sentinel, .sentinel], laidTests := true, laidLooks := .later }
def TopTwiceCardSaid : Prop := Claim7.holds Tryz.pinned (.plain (OpenSpec.ofChange topTwiceSpec)) topTwiceCard

/-- THE SECOND FORM's CARD OF 'matinslaw10.WalScripts'. -/
def walScriptsUptoCard : Claim7 := { stood := { row := walScriptsUptoRow, standIns := [], harness := (true, "86ddbfc19172b75d82cb2c2491c37b816b7daeed59914a75aab0d96725910854"), looks := true }, kinds := [], alts := [], laidByText := true, laidKinds := [.data, .data, .data, .sentinel, .sentinel], laidTests := true, laidLooks := .later }
def WalScriptsUptoCardSaid : Prop := Claim7.holds Tryz.pinned (.plain (OpenSpec.upto walScriptsSpec)) walScriptsUptoCard

/-- THE SECOND FORM's CARD OF 'matinslaw10.WalKeeps'. -/
def walKeepsUptoCard : Claim7 := { stood := { row := walKeepsUptoRow, standIns := [], harness := (true, "86ddbfc19172b75d82cb2c2491c37b816b7daeed59914a75aab0d96725910854"), looks := true }, kinds := [], alts := [], laidByText := true, laidKinds := [.data, .data, .data, .sentinel, .sentinel], laidTests := true, laidLooks := .later }
def WalKeepsUptoCardSaid : Prop := Claim7.holds Tryz.pinned (.plain (OpenSpec.upto walKeepsSpec)) walKeepsUptoCard

/-- THE SECOND FORM's CARD OF 'matinslaw10.WalAgain'. -/
def walAgainUptoCard : Claim7 := { stood := { row := walAgainUptoRow, standIns := [], harness := (true, "86ddbfc19172b75d82cb2c2491c37b816b7daeed59914a75aab0d96725910854"), looks := true }, kinds := [], alts := [], laidByText := true, laidKinds := [.data, .data, .data, .sentinel, .sentinel], laidTests := true, laidLooks := .later }
def WalAgainUptoCardSaid : Prop := Claim7.holds Tryz.pinned (.plain (OpenSpec.upto walAgainSpec)) walAgainUptoCard

/-- THE SECOND FORM's CARD OF 'matinslaw10.WalLays'. -/
def walLaysUptoCard : Claim7 := { stood := { row := walLaysUptoRow, standIns := [], harness := (true, "86ddbfc19172b75d82cb2c2491c37b816b7daeed59914a75aab0d96725910854"), looks := true }, kinds := [], alts := [], laidByText := true, laidKinds := [.data, .data, .data, .sentinel, .sentinel], laidTests := true, laidLooks := .later }
def WalLaysUptoCardSaid : Prop := Claim7.holds Tryz.pinned (.plain (OpenSpec.upto walLaysSpec)) walLaysUptoCard

/-- THE SECOND FORM's CARD OF 'matinstop.TopTwice'. -/
def topTwiceUptoCard : Claim7 := { stood := { row := topTwiceUptoRow, standIns := [], harness := (true, "86ddbfc19172b75d82cb2c2491c37b816b7daeed59914a75aab0d96725910854"), looks := true }, kinds := [], alts := [], laidByText := true, laidKinds := [.data, .data, .data, .sentinel, .sentinel], laidTests := true, laidLooks := .later }
def TopTwiceUptoCardSaid : Prop := Claim7.holds Tryz.pinned (.plain (OpenSpec.upto topTwiceSpec)) topTwiceUptoCard
end Rows
end Go.Proofs.YtapdhkgeolcogaaGreatDoor
