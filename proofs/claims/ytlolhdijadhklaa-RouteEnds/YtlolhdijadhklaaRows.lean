/-
  No cell of these rows narrows 'for every input' (looked for: loops, veiled, ifaces, maps, wideKeys, modest, calm, conditions, laid).
  DERIVED. THE GIVEN ROWS OF THIS SEAT. 6 by the template 'for every input the law returns true; each argument reads behind the call as it read before'; 0 by the template 'total and deterministic' (their statements: YtlolhdijadhklaaTotals.lean).
  GIVEN WITH THE SEED: the statements are not yours to turn. If you find one false, say at which input.
  Laid BY PROGRAM, IN A SANDBOX (cutbox-rows.mjs): the forced cells as the released guide's own fill.sh prints them over the translation 434b1652fd346945… (all of the seat's roots in one cut). By AI agents, Wed Nov 11 2026. No macro, syntax, notation, axiom, sorry.
-/
import Derived.Test.YtlolhdijadhklaaChecked
import GoSem.Claim
import GoSem.ClaimJoined
import GoSem.ClaimMapViews
import Derived.JoinedTies
import Derived.KernelRfl
namespace Go.Proofs.Ytlolhdijadhklaa
/- THE CELL 'sum', in the pinned program and in every row, IS THE sha256 OF THE DUMP (.gsa) THAT YtlolhdijadhklaaProg.lean LOADS. Nothing in Lean hashes anything: it is a label: what it is worth is what the hold of that sum in a sandbox is worth. -/
noncomputable def Try.pinned : Pinned := { name := "ytlolhdijadhklaa", sum := "434b1652fd3469450314a94f87170ceee2802b927dce9115cf884f6358752654", checked := Try.checked }
namespace Rows
def none {H : Type} : Left H := { results := [], args := [] }

/-- 'matinslaw19.AtlasTells': WHATEVER THE INPUT: true; the input reads as it did. -/
def atlasTellsSpec : ChangeSpec := { name := "atlasTells", fn := fun _ => fun
  | [d1, d2, d3] => { results := [.lit (.bool true)], args := [d1, d2, d3] }
  | _ => none }
def atlasTellsRow : OpenClaim := { program := "ytlolhdijadhklaa", sum := "434b1652fd3469450314a94f87170ceee2802b927dce9115cf884f6358752654", func := "matins/matinslaw19.AtlasTells", spec := "atlasTells", inPlace := ["slices.overlaps[matins/api.Span]"], unfollowed := true, recurses := true, apart := false }
def AtlasTellsSaid : Prop := atlasTellsRow.holds Try.pinned (OpenSpec.ofChange atlasTellsSpec)

/-- ITS FALSE NEIGHBOUR: 'it returns false'. Refute it at one input. -/
def atlasTellsWrong : ChangeSpec := { name := "atlasTells", fn := fun _ => fun
  | [d1, d2, d3] => { results := [.lit (.bool false)], args := [d1, d2, d3] }
  | _ => none }
def AtlasTellsWrongFalsely : Prop := atlasTellsRow.holds Try.pinned (OpenSpec.ofChange atlasTellsWrong)

/-- 'matinslaw19.AtlasDoes': WHATEVER THE INPUT: true; the input reads as it did. -/
def atlasDoesSpec : ChangeSpec := { name := "atlasDoes", fn := fun _ => fun
  | [d1, d2, d3] => { results := [.lit (.bool true)], args := [d1, d2, d3] }
  | _ => none }
def atlasDoesRow : OpenClaim := { program := "ytlolhdijadhklaa", sum := "434b1652fd3469450314a94f87170ceee2802b927dce9115cf884f6358752654", func := "matins/matinslaw19.AtlasDoes", spec := "atlasDoes", inPlace := ["slices.overlaps[matins/api.Span]"], unfollowed := true, recurses := true, apart := false }
def AtlasDoesSaid : Prop := atlasDoesRow.holds Try.pinned (OpenSpec.ofChange atlasDoesSpec)

/-- ITS FALSE NEIGHBOUR: 'it returns false'. Refute it at one input. -/
def atlasDoesWrong : ChangeSpec := { name := "atlasDoes", fn := fun _ => fun
  | [d1, d2, d3] => { results := [.lit (.bool false)], args := [d1, d2, d3] }
  | _ => none }
def AtlasDoesWrongFalsely : Prop := atlasDoesRow.holds Try.pinned (OpenSpec.ofChange atlasDoesWrong)

/-- 'matinslaw20.MoverTells': WHATEVER THE INPUT: true; the input reads as it did. -/
def moverTellsSpec : ChangeSpec := { name := "moverTells", fn := fun _ => fun
  | [d1, d2, d3, d4] => { results := [.lit (.bool true)], args := [d1, d2, d3, d4] }
  | _ => none }
def moverTellsRow : OpenClaim := { program := "ytlolhdijadhklaa", sum := "434b1652fd3469450314a94f87170ceee2802b927dce9115cf884f6358752654", func := "matins/matinslaw20.MoverTells", spec := "moverTells", unfollowed := true, recurses := true, apart := false }
def MoverTellsSaid : Prop := moverTellsRow.holds Try.pinned (OpenSpec.ofChange moverTellsSpec)

/-- ITS FALSE NEIGHBOUR: 'it returns false'. Refute it at one input. -/
def moverTellsWrong : ChangeSpec := { name := "moverTells", fn := fun _ => fun
  | [d1, d2, d3, d4] => { results := [.lit (.bool false)], args := [d1, d2, d3, d4] }
  | _ => none }
def MoverTellsWrongFalsely : Prop := moverTellsRow.holds Try.pinned (OpenSpec.ofChange moverTellsWrong)

/-- 'matinslaw21.RouteEnds': WHATEVER THE INPUT: true; the input reads as it did. -/
def routeEndsSpec : ChangeSpec := { name := "routeEnds", fn := fun _ => fun
  | [d1, d2] => { results := [.lit (.bool true)], args := [d1, d2] }
  | _ => none }
def routeEndsRow : OpenClaim := { program := "ytlolhdijadhklaa", sum := "434b1652fd3469450314a94f87170ceee2802b927dce9115cf884f6358752654", func := "matins/matinslaw21.RouteEnds", spec := "routeEnds", unfollowed := true, recurses := true, apart := false }
def RouteEndsSaid : Prop := routeEndsRow.holds Try.pinned (OpenSpec.ofChange routeEndsSpec)

/-- ITS FALSE NEIGHBOUR: 'it returns false'. Refute it at one input. -/
def routeEndsWrong : ChangeSpec := { name := "routeEnds", fn := fun _ => fun
  | [d1, d2] => { results := [.lit (.bool false)], args := [d1, d2] }
  | _ => none }
def RouteEndsWrongFalsely : Prop := routeEndsRow.holds Try.pinned (OpenSpec.ofChange routeEndsWrong)

/-- 'matinslaw21.RouteFinds': WHATEVER THE INPUT: true; the input reads as it did. -/
def routeFindsSpec : ChangeSpec := { name := "routeFinds", fn := fun _ => fun
  | [d1, d2, d3, d4, d5] => { results := [.lit (.bool true)], args := [d1, d2, d3, d4, d5] }
  | _ => none }
def routeFindsRow : OpenClaim := { program := "ytlolhdijadhklaa", sum := "434b1652fd3469450314a94f87170ceee2802b927dce9115cf884f6358752654", func := "matins/matinslaw21.RouteFinds", spec := "routeFinds", unfollowed := true, recurses := true, apart := false }
def RouteFindsSaid : Prop := routeFindsRow.holds Try.pinned (OpenSpec.ofChange routeFindsSpec)

/-- ITS FALSE NEIGHBOUR: 'it returns false'. Refute it at one input. -/
def routeFindsWrong : ChangeSpec := { name := "routeFinds", fn := fun _ => fun
  | [d1, d2, d3, d4, d5] => { results := [.lit (.bool false)], args := [d1, d2, d3, d4, d5] }
  | _ => none }
def RouteFindsWrongFalsely : Prop := routeFindsRow.holds Try.pinned (OpenSpec.ofChange routeFindsWrong)

/-- 'matinstop.TopRoutes': WHATEVER THE INPUT: true; the input reads as it did. -/
def topRoutesSpec : ChangeSpec := { name := "topRoutes", fn := fun _ => fun
  | [d1, d2, d3] => { results := [.lit (.bool true)], args := [d1, d2, d3] }
  | _ => none }
def topRoutesRow : OpenClaim := { program := "ytlolhdijadhklaa", sum := "434b1652fd3469450314a94f87170ceee2802b927dce9115cf884f6358752654", func := "matins/matinstop.TopRoutes", spec := "topRoutes", unfollowed := true, recurses := true, apart := false }
def TopRoutesSaid : Prop := topRoutesRow.holds Try.pinned (OpenSpec.ofChange topRoutesSpec)

/-- ITS FALSE NEIGHBOUR: 'it returns false'. Refute it at one input. -/
def topRoutesWrong : ChangeSpec := { name := "topRoutes", fn := fun _ => fun
  | [d1, d2, d3] => { results := [.lit (.bool false)], args := [d1, d2, d3] }
  | _ => none }
def TopRoutesWrongFalsely : Prop := topRoutesRow.holds Try.pinned (OpenSpec.ofChange topRoutesWrong)

/- THE SECOND FORM. 'bulk': how many values and letters a reading holds, each counted each time it is reached (what is shared counts as often as it is met; a slice's spare places count too). A statement '..UptoSaid' is the law's where the arguments, and the package variables that the reading takes, are together of bulk at most 1048576: NARROWER than '..Said'. Prove '..Said' where nothing that the law and all that it calls make is longer than what came in: it says more and counts as full. Else prove '..UptoSaid'. A law counts once. -/
mutual
def uptoBulk {H : Type} : DataW H → Nat
  | .lit (.string bytes) => bytes.length + 1
  | .lit _ => 1
  | .nil => 1
  | .ptr d => uptoBulk d + 1
  | .slice elems spare => uptoBulkAll elems + uptoBulkAll spare + 1
  | .agg parts => uptoBulkAll parts + 1
  | .iface _ d => uptoBulk d + 1
  | .map entries => uptoBulkEntries entries + 1
  | .held _ => 1
def uptoBulkAll {H : Type} : List (DataW H) → Nat
  | [] => 0
  | d :: r => uptoBulk d + uptoBulkAll r
def uptoBulkEntries {H : Type} : List (Lit × DataW H) → Nat
  | [] => 0
  | x :: r => uptoBulkEntry x + uptoBulkEntries r
def uptoBulkEntry {H : Type} : Lit × DataW H → Nat
  | (.string bytes, d) => bytes.length + uptoBulk d + 1
  | (_, d) => uptoBulk d + 1
 end
def uptoSmall : (H : Type) → List (DataW H) → Bool := fun _ ds => decide (uptoBulkAll ds ≤ 1048576)
def OpenSpec.upto (s : _root_.Go.ChangeSpec) : _root_.Go.OpenSpec := { _root_.Go.OpenSpec.ofChange s with cond := some uptoSmall }

/-- 'matinslaw19.AtlasTells', WHERE WHAT IT READS IS OF BULK AT MOST 1048576: true; the input reads as it did. -/
def atlasTellsUptoRow : OpenClaim := { program := "ytlolhdijadhklaa", sum := "434b1652fd3469450314a94f87170ceee2802b927dce9115cf884f6358752654", func := "matins/matinslaw19.AtlasTells", spec := "atlasTells", inPlace := ["slices.overlaps[matins/api.Span]"], unfollowed := true, recurses := true, apart := false, narrowed := true }
def AtlasTellsUptoSaid : Prop := atlasTellsUptoRow.holds Try.pinned (OpenSpec.upto atlasTellsSpec)

/-- 'matinslaw19.AtlasDoes', WHERE WHAT IT READS IS OF BULK AT MOST 1048576: true; the input reads as it did. -/
def atlasDoesUptoRow : OpenClaim := { program := "ytlolhdijadhklaa", sum := "434b1652fd3469450314a94f87170ceee2802b927dce9115cf884f6358752654", func := "matins/matinslaw19.AtlasDoes", spec := "atlasDoes", inPlace := ["slices.overlaps[matins/api.Span]"], unfollowed := true, recurses := true, apart := false, narrowed := true }
def AtlasDoesUptoSaid : Prop := atlasDoesUptoRow.holds Try.pinned (OpenSpec.upto atlasDoesSpec)

/-- 'matinslaw20.MoverTells', WHERE WHAT IT READS IS OF BULK AT MOST 1048576: true; the input reads as it did. -/
def moverTellsUptoRow : OpenClaim := { program := "ytlolhdijadhklaa", sum := "434b1652fd3469450314a94f87170ceee2802b927dce9115cf884f6358752654", func := "matins/matinslaw20.MoverTells", spec := "moverTells", unfollowed := true, recurses := true, apart := false, narrowed := true }
def MoverTellsUptoSaid : Prop := moverTellsUptoRow.holds Try.pinned (OpenSpec.upto moverTellsSpec)

/-- 'matinslaw21.RouteEnds', WHERE WHAT IT READS IS OF BULK AT MOST 1048576: true; the input reads as it did. -/
def routeEndsUptoRow : OpenClaim := { program := "ytlolhdijadhklaa", sum := "434b1652fd3469450314a94f87170ceee2802b927dce9115cf884f6358752654", func := "matins/matinslaw21.RouteEnds", spec := "routeEnds", unfollowed := true, recurses := true, apart := false, narrowed := true }
def RouteEndsUptoSaid : Prop := routeEndsUptoRow.holds Try.pinned (OpenSpec.upto routeEndsSpec)

/-- 'matinslaw21.RouteFinds', WHERE WHAT IT READS IS OF BULK AT MOST 1048576: true; the input reads as it did. -/
def routeFindsUptoRow : OpenClaim := { program := "ytlolhdijadhklaa", sum := "434b1652fd3469450314a94f87170ceee2802b927dce9115cf884f6358752654", func := "matins/matinslaw21.RouteFinds", spec := "routeFinds", unfollowed := true, recurses := true, apart := false, narrowed := true }
def RouteFindsUptoSaid : Prop := routeFindsUptoRow.holds Try.pinned (OpenSpec.upto routeFindsSpec)

/-- 'matinstop.TopRoutes', WHERE WHAT IT READS IS OF BULK AT MOST 1048576: true; the input reads as it did. -/
def topRoutesUptoRow : OpenClaim := { program := "ytlolhdijadhklaa", sum := "434b1652fd3469450314a94f87170ceee2802b927dce9115cf884f6358752654", func := "matins/matinstop.TopRoutes", spec := "topRoutes", unfollowed := true, recurses := true, apart := false, narrowed := true }
def TopRoutesUptoSaid : Prop := topRoutesUptoRow.holds Try.pinned (OpenSpec.upto topRoutesSpec)

end Rows
end Go.Proofs.Ytlolhdijadhklaa
