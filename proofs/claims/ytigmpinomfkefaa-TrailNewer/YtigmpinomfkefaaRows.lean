/-
  No cell of these rows narrows 'for every input' (looked for: loops, veiled, ifaces, maps, wideKeys, modest, calm, conditions, laid).
  DERIVED. THE GIVEN ROWS OF THIS SEAT. 2 by the template 'for every input the law returns true; each argument reads behind the call as it read before'; 0 by the template 'total and deterministic' (their statements: YtigmpinomfkefaaTotals.lean).
  GIVEN WITH THE SEED: the statements are not yours to turn. If you find one false, say at which input.
  Laid BY PROGRAM, IN A SANDBOX (cutbox-rows.mjs): the forced cells as the released guide's own fill.sh prints them over the translation 6a8a41ff562ba774… (all of the seat's roots in one cut). By AI agents, Wed Nov 11 2026. No macro, syntax, notation, axiom, sorry.
-/
import Derived.Test.YtigmpinomfkefaaChecked
import GoSem.Claim
import GoSem.ClaimJoined
import GoSem.ClaimMapViews
import Derived.JoinedTies
import Derived.KernelRfl
namespace Go.Proofs.Ytigmpinomfkefaa
/- THE CELL 'sum', in the pinned program and in every row, IS THE sha256 OF THE DUMP (.gsa) THAT YtigmpinomfkefaaProg.lean LOADS. Nothing in Lean hashes anything: it is a label: what it is worth is what the hold of that sum in a sandbox is worth. -/
noncomputable def Try.pinned : Pinned := { name := "ytigmpinomfkefaa", sum := "6a8a41ff562ba77460be31d9e7604f3141f32de7ee496365180b22277f6b833f", checked := Try.checked }
namespace Rows
def none {H : Type} : Left H := { results := [], args := [] }

/-- 'matinslaw13.TrailParts': WHATEVER THE INPUT: true; the input reads as it did. -/
def trailPartsSpec : ChangeSpec := { name := "trailParts", fn := fun _ => fun
  | [d1, d2, d3, d4, d5, d6] => { results := [.lit (.bool true)], args := [d1, d2, d3, d4, d5, d6] }
  | _ => none }
def trailPartsRow : OpenClaim := { program := "ytigmpinomfkefaa", sum := "6a8a41ff562ba77460be31d9e7604f3141f32de7ee496365180b22277f6b833f", func := "matins/matinslaw13.TrailParts", spec := "trailParts", apart := false }
def TrailPartsSaid : Prop := trailPartsRow.holds Try.pinned (OpenSpec.ofChange trailPartsSpec)

/-- ITS FALSE NEIGHBOUR: 'it returns false'. Refute it at one input. -/
def trailPartsWrong : ChangeSpec := { name := "trailParts", fn := fun _ => fun
  | [d1, d2, d3, d4, d5, d6] => { results := [.lit (.bool false)], args := [d1, d2, d3, d4, d5, d6] }
  | _ => none }
def TrailPartsWrongFalsely : Prop := trailPartsRow.holds Try.pinned (OpenSpec.ofChange trailPartsWrong)

/-- 'matinslaw13.TrailNewer': WHATEVER THE INPUT: true; the input reads as it did. -/
def trailNewerSpec : ChangeSpec := { name := "trailNewer", fn := fun _ => fun
  | [d1, d2] => { results := [.lit (.bool true)], args := [d1, d2] }
  | _ => none }
def trailNewerRow : OpenClaim := { program := "ytigmpinomfkefaa", sum := "6a8a41ff562ba77460be31d9e7604f3141f32de7ee496365180b22277f6b833f", func := "matins/matinslaw13.TrailNewer", spec := "trailNewer", apart := false }
def TrailNewerSaid : Prop := trailNewerRow.holds Try.pinned (OpenSpec.ofChange trailNewerSpec)

/-- ITS FALSE NEIGHBOUR: 'it returns false'. Refute it at one input. -/
def trailNewerWrong : ChangeSpec := { name := "trailNewer", fn := fun _ => fun
  | [d1, d2] => { results := [.lit (.bool false)], args := [d1, d2] }
  | _ => none }
def TrailNewerWrongFalsely : Prop := trailNewerRow.holds Try.pinned (OpenSpec.ofChange trailNewerWrong)

/- THE SECOND FORM. 'bulk': how many values and letters a reading holds, each counted each time it is reached (what is shared counts as often as it is met; a slice's spare places count too). A statement '..UptoSaid' is the law's where the arguments, and the package variables that the reading takes, are together of bulk at most 1048576: NARROWER than '..Said'. Prove '..Said' where nothing that the law and all that it calls make is longer than what came in: it says more and counts as full. Else prove '..UptoSaid'. A law counts once. -/
mutual
def uptoBulk {H : Type} : DataW H → Nat
  | .lit (.string bytes) => bytes.length + 1
  | .lit _ => 1
  | .nil => 1
  | .ptr d => uptoBulk d + 1
  | .slice elems spare => uptoBulkAll elems + uptoBulkAll spare + 1
  | .agg parts => uptoBulkAll parts + 1
  | .iface _ d => uptoBulk d + 1
  | .map entries => uptoBulkEntries entries + 1
  | .held _ => 1
def uptoBulkAll {H : Type} : List (DataW H) → Nat
  | [] => 0
  | d :: r => uptoBulk d + uptoBulkAll r
def uptoBulkEntries {H : Type} : List (Lit × DataW H) → Nat
  | [] => 0
  | x :: r => uptoBulkEntry x + uptoBulkEntries r
def uptoBulkEntry {H : Type} : Lit × DataW H → Nat
  | (.string bytes, d) => bytes.length + uptoBulk d + 1
  | (_, d) => uptoBulk d + 1
 end
def uptoSmall : (H : Type) → List (DataW H) → Bool := fun _ ds => decide (uptoBulkAll ds ≤ 1048576)
def OpenSpec.upto (s : _root_.Go.ChangeSpec) : _root_.Go.OpenSpec := { _root_.Go.OpenSpec.ofChange s with cond := some uptoSmall }

/-- 'matinslaw13.TrailParts', WHERE WHAT IT READS IS OF BULK AT MOST 1048576: true; the input reads as it did. -/
def trailPartsUptoRow : OpenClaim := { program := "ytigmpinomfkefaa", sum := "6a8a41ff562ba77460be31d9e7604f3141f32de7ee496365180b22277f6b833f", func := "matins/matinslaw13.TrailParts", spec := "trailParts", apart := false, narrowed := true }
def TrailPartsUptoSaid : Prop := trailPartsUptoRow.holds Try.pinned (OpenSpec.upto trailPartsSpec)

/-- 'matinslaw13.TrailNewer', WHERE WHAT IT READS IS OF BULK AT MOST 1048576: true; the input reads as it did. -/
def trailNewerUptoRow : OpenClaim := { program := "ytigmpinomfkefaa", sum := "6a8a41ff562ba77460be31d9e7604f3141f32de7ee496365180b22277f6b833f", func := "matins/matinslaw13.TrailNewer", spec := "trailNewer", apart := false, narrowed := true }
def TrailNewerUptoSaid : Prop := trailNewerUptoRow.holds Try.pinned (OpenSpec.upto trailNewerSpec)

end Rows
end Go.Proofs.Ytigmpinomfkefaa
