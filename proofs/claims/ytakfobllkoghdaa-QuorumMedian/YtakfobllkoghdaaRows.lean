/-
  No cell of these rows narrows 'for every input' (looked for: loops, veiled, ifaces, maps, wideKeys, modest, calm, conditions, laid).
  DERIVED. THE GIVEN ROWS OF THIS SEAT. 6 by the template 'for every input the law returns true; each argument reads behind the call as it read before'; 0 by the template 'total and deterministic' (their statements: YtakfobllkoghdaaTotals.lean).
  GIVEN WITH THE SEED: the statements are not yours to turn. If you find one false, say at which input.
  Laid BY PROGRAM, IN A SANDBOX (cutbox-rows.mjs): the forced cells as the released guide's own fill.sh prints them over the translation cc8885d2eed127a9… (all of the seat's roots in one cut). By AI agents, Wed Nov 11 2026. No macro, syntax, notation, axiom, sorry.
-/
import Derived.Test.YtakfobllkoghdaaChecked
import GoSem.Claim
import GoSem.ClaimJoined
import GoSem.ClaimMapViews
import Derived.JoinedTies
import Derived.KernelRfl
namespace Go.Proofs.Ytakfobllkoghdaa
/- THE CELL 'sum', in the pinned program and in every row, IS THE sha256 OF THE DUMP (.gsa) THAT YtakfobllkoghdaaProg.lean LOADS. Nothing in Lean hashes anything: it is a label: what it is worth is what the hold of that sum in a sandbox is worth. -/
noncomputable def Try.pinned : Pinned := { name := "ytakfobllkoghdaa", sum := "cc8885d2eed127a9c1721a06e45f6514fa4b4f2e8e3bd18c25537c820cfdd557", checked := Try.checked }
namespace Rows
def none {H : Type} : Left H := { results := [], args := [] }

/-- 'matinslaw12.QuorumDecides': WHATEVER THE INPUT: true; the input reads as it did. -/
def quorumDecidesSpec : ChangeSpec := { name := "quorumDecides", fn := fun _ => fun
  | [d1, d2, d3] => { results := [.lit (.bool true)], args := [d1, d2, d3] }
  | _ => none }
def quorumDecidesRow : OpenClaim := { program := "ytakfobllkoghdaa", sum := "cc8885d2eed127a9c1721a06e45f6514fa4b4f2e8e3bd18c25537c820cfdd557", func := "matins/matinslaw12.QuorumDecides", spec := "quorumDecides", recurses := true, apart := false }
def QuorumDecidesSaid : Prop := quorumDecidesRow.holds Try.pinned (OpenSpec.ofChange quorumDecidesSpec)

/-- ITS FALSE NEIGHBOUR: 'it returns false'. Refute it at one input. -/
def quorumDecidesWrong : ChangeSpec := { name := "quorumDecides", fn := fun _ => fun
  | [d1, d2, d3] => { results := [.lit (.bool false)], args := [d1, d2, d3] }
  | _ => none }
def QuorumDecidesWrongFalsely : Prop := quorumDecidesRow.holds Try.pinned (OpenSpec.ofChange quorumDecidesWrong)

/-- 'matinslaw12.QuorumReached': WHATEVER THE INPUT: true; the input reads as it did. -/
def quorumReachedSpec : ChangeSpec := { name := "quorumReached", fn := fun _ => fun
  | [d1, d2, d3, d4] => { results := [.lit (.bool true)], args := [d1, d2, d3, d4] }
  | _ => none }
def quorumReachedRow : OpenClaim := { program := "ytakfobllkoghdaa", sum := "cc8885d2eed127a9c1721a06e45f6514fa4b4f2e8e3bd18c25537c820cfdd557", func := "matins/matinslaw12.QuorumReached", spec := "quorumReached", recurses := true, apart := false }
def QuorumReachedSaid : Prop := quorumReachedRow.holds Try.pinned (OpenSpec.ofChange quorumReachedSpec)

/-- ITS FALSE NEIGHBOUR: 'it returns false'. Refute it at one input. -/
def quorumReachedWrong : ChangeSpec := { name := "quorumReached", fn := fun _ => fun
  | [d1, d2, d3, d4] => { results := [.lit (.bool false)], args := [d1, d2, d3, d4] }
  | _ => none }
def QuorumReachedWrongFalsely : Prop := quorumReachedRow.holds Try.pinned (OpenSpec.ofChange quorumReachedWrong)

/-- 'matinslaw12.QuorumMeets': WHATEVER THE INPUT: true; the input reads as it did. -/
def quorumMeetsSpec : ChangeSpec := { name := "quorumMeets", fn := fun _ => fun
  | [d1, d2, d3, d4, d5] => { results := [.lit (.bool true)], args := [d1, d2, d3, d4, d5] }
  | _ => none }
def quorumMeetsRow : OpenClaim := { program := "ytakfobllkoghdaa", sum := "cc8885d2eed127a9c1721a06e45f6514fa4b4f2e8e3bd18c25537c820cfdd557", func := "matins/matinslaw12.QuorumMeets", spec := "quorumMeets", recurses := true, apart := false }
def QuorumMeetsSaid : Prop := quorumMeetsRow.holds Try.pinned (OpenSpec.ofChange quorumMeetsSpec)

/-- ITS FALSE NEIGHBOUR: 'it returns false'. Refute it at one input. -/
def quorumMeetsWrong : ChangeSpec := { name := "quorumMeets", fn := fun _ => fun
  | [d1, d2, d3, d4, d5] => { results := [.lit (.bool false)], args := [d1, d2, d3, d4, d5] }
  | _ => none }
def QuorumMeetsWrongFalsely : Prop := quorumMeetsRow.holds Try.pinned (OpenSpec.ofChange quorumMeetsWrong)

/-- 'matinslaw12.QuorumMedian': WHATEVER THE INPUT: true; the input reads as it did. -/
def quorumMedianSpec : ChangeSpec := { name := "quorumMedian", fn := fun _ => fun
  | [d1, d2] => { results := [.lit (.bool true)], args := [d1, d2] }
  | _ => none }
def quorumMedianRow : OpenClaim := { program := "ytakfobllkoghdaa", sum := "cc8885d2eed127a9c1721a06e45f6514fa4b4f2e8e3bd18c25537c820cfdd557", func := "matins/matinslaw12.QuorumMedian", spec := "quorumMedian", recurses := true, apart := false }
def QuorumMedianSaid : Prop := quorumMedianRow.holds Try.pinned (OpenSpec.ofChange quorumMedianSpec)

/-- ITS FALSE NEIGHBOUR: 'it returns false'. Refute it at one input. -/
def quorumMedianWrong : ChangeSpec := { name := "quorumMedian", fn := fun _ => fun
  | [d1, d2] => { results := [.lit (.bool false)], args := [d1, d2] }
  | _ => none }
def QuorumMedianWrongFalsely : Prop := quorumMedianRow.holds Try.pinned (OpenSpec.ofChange quorumMedianWrong)

/-- 'matinslaw12.QuorumGrows': WHATEVER THE INPUT: true; the input reads as it did. -/
def quorumGrowsSpec : ChangeSpec := { name := "quorumGrows", fn := fun _ => fun
  | [d1, d2, d3] => { results := [.lit (.bool true)], args := [d1, d2, d3] }
  | _ => none }
def quorumGrowsRow : OpenClaim := { program := "ytakfobllkoghdaa", sum := "cc8885d2eed127a9c1721a06e45f6514fa4b4f2e8e3bd18c25537c820cfdd557", func := "matins/matinslaw12.QuorumGrows", spec := "quorumGrows", recurses := true, apart := false }
def QuorumGrowsSaid : Prop := quorumGrowsRow.holds Try.pinned (OpenSpec.ofChange quorumGrowsSpec)

/-- ITS FALSE NEIGHBOUR: 'it returns false'. Refute it at one input. -/
def quorumGrowsWrong : ChangeSpec := { name := "quorumGrows", fn := fun _ => fun
  | [d1, d2, d3] => { results := [.lit (.bool false)], args := [d1, d2, d3] }
  | _ => none }
def QuorumGrowsWrongFalsely : Prop := quorumGrowsRow.holds Try.pinned (OpenSpec.ofChange quorumGrowsWrong)

/-- 'matinslaw12.QuorumBack': WHATEVER THE INPUT: true; the input reads as it did. -/
def quorumBackSpec : ChangeSpec := { name := "quorumBack", fn := fun _ => fun
  | [d1, d2] => { results := [.lit (.bool true)], args := [d1, d2] }
  | _ => none }
def quorumBackRow : OpenClaim := { program := "ytakfobllkoghdaa", sum := "cc8885d2eed127a9c1721a06e45f6514fa4b4f2e8e3bd18c25537c820cfdd557", func := "matins/matinslaw12.QuorumBack", spec := "quorumBack", recurses := true, apart := false }
def QuorumBackSaid : Prop := quorumBackRow.holds Try.pinned (OpenSpec.ofChange quorumBackSpec)

/-- ITS FALSE NEIGHBOUR: 'it returns false'. Refute it at one input. -/
def quorumBackWrong : ChangeSpec := { name := "quorumBack", fn := fun _ => fun
  | [d1, d2] => { results := [.lit (.bool false)], args := [d1, d2] }
  | _ => none }
def QuorumBackWrongFalsely : Prop := quorumBackRow.holds Try.pinned (OpenSpec.ofChange quorumBackWrong)

/- THE SECOND FORM. 'bulk': how many values and letters a reading holds, each counted each time it is reached (what is shared counts as often as it is met; a slice's spare places count too). A statement '..UptoSaid' is the law's where the arguments, and the package variables that the reading takes, are together of bulk at most 1048576: NARROWER than '..Said'. Prove '..Said' where nothing that the law and all that it calls make is longer than what came in: it says more and counts as full. Else prove '..UptoSaid'. A law counts once. -/
mutual
def uptoBulk {H : Type} : DataW H → Nat
  | .lit (.string bytes) => bytes.length + 1
  | .lit _ => 1
  | .nil => 1
  | .ptr d => uptoBulk d + 1
  | .slice elems spare => uptoBulkAll elems + uptoBulkAll spare + 1
  | .agg parts => uptoBulkAll parts + 1
  | .iface _ d => uptoBulk d + 1
  | .map entries => uptoBulkEntries entries + 1
  | .held _ => 1
def uptoBulkAll {H : Type} : List (DataW H) → Nat
  | [] => 0
  | d :: r => uptoBulk d + uptoBulkAll r
def uptoBulkEntries {H : Type} : List (Lit × DataW H) → Nat
  | [] => 0
  | x :: r => uptoBulkEntry x + uptoBulkEntries r
def uptoBulkEntry {H : Type} : Lit × DataW H → Nat
  | (.string bytes, d) => bytes.length + uptoBulk d + 1
  | (_, d) => uptoBulk d + 1
 end
def uptoSmall : (H : Type) → List (DataW H) → Bool := fun _ ds => decide (uptoBulkAll ds ≤ 1048576)
def OpenSpec.upto (s : _root_.Go.ChangeSpec) : _root_.Go.OpenSpec := { _root_.Go.OpenSpec.ofChange s with cond := some uptoSmall }

/-- 'matinslaw12.QuorumDecides', WHERE WHAT IT READS IS OF BULK AT MOST 1048576: true; the input reads as it did. -/
def quorumDecidesUptoRow : OpenClaim := { program := "ytakfobllkoghdaa", sum := "cc8885d2eed127a9c1721a06e45f6514fa4b4f2e8e3bd18c25537c820cfdd557", func := "matins/matinslaw12.QuorumDecides", spec := "quorumDecides", recurses := true, apart := false, narrowed := true }
def QuorumDecidesUptoSaid : Prop := quorumDecidesUptoRow.holds Try.pinned (OpenSpec.upto quorumDecidesSpec)

/-- 'matinslaw12.QuorumReached', WHERE WHAT IT READS IS OF BULK AT MOST 1048576: true; the input reads as it did. -/
def quorumReachedUptoRow : OpenClaim := { program := "ytakfobllkoghdaa", sum := "cc8885d2eed127a9c1721a06e45f6514fa4b4f2e8e3bd18c25537c820cfdd557", func := "matins/matinslaw12.QuorumReached", spec := "quorumReached", recurses := true, apart := false, narrowed := true }
def QuorumReachedUptoSaid : Prop := quorumReachedUptoRow.holds Try.pinned (OpenSpec.upto quorumReachedSpec)

/-- 'matinslaw12.QuorumMeets', WHERE WHAT IT READS IS OF BULK AT MOST 1048576: true; the input reads as it did. -/
def quorumMeetsUptoRow : OpenClaim := { program := "ytakfobllkoghdaa", sum := "cc8885d2eed127a9c1721a06e45f6514fa4b4f2e8e3bd18c25537c820cfdd557", func := "matins/matinslaw12.QuorumMeets", spec := "quorumMeets", recurses := true, apart := false, narrowed := true }
def QuorumMeetsUptoSaid : Prop := quorumMeetsUptoRow.holds Try.pinned (OpenSpec.upto quorumMeetsSpec)

/-- 'matinslaw12.QuorumMedian', WHERE WHAT IT READS IS OF BULK AT MOST 1048576: true; the input reads as it did. -/
def quorumMedianUptoRow : OpenClaim := { program := "ytakfobllkoghdaa", sum := "cc8885d2eed127a9c1721a06e45f6514fa4b4f2e8e3bd18c25537c820cfdd557", func := "matins/matinslaw12.QuorumMedian", spec := "quorumMedian", recurses := true, apart := false, narrowed := true }
def QuorumMedianUptoSaid : Prop := quorumMedianUptoRow.holds Try.pinned (OpenSpec.upto quorumMedianSpec)

/-- 'matinslaw12.QuorumGrows', WHERE WHAT IT READS IS OF BULK AT MOST 1048576: true; the input reads as it did. -/
def quorumGrowsUptoRow : OpenClaim := { program := "ytakfobllkoghdaa", sum := "cc8885d2eed127a9c1721a06e45f6514fa4b4f2e8e3bd18c25537c820cfdd557", func := "matins/matinslaw12.QuorumGrows", spec := "quorumGrows", recurses := true, apart := false, narrowed := true }
def QuorumGrowsUptoSaid : Prop := quorumGrowsUptoRow.holds Try.pinned (OpenSpec.upto quorumGrowsSpec)

/-- 'matinslaw12.QuorumBack', WHERE WHAT IT READS IS OF BULK AT MOST 1048576: true; the input reads as it did. -/
def quorumBackUptoRow : OpenClaim := { program := "ytakfobllkoghdaa", sum := "cc8885d2eed127a9c1721a06e45f6514fa4b4f2e8e3bd18c25537c820cfdd557", func := "matins/matinslaw12.QuorumBack", spec := "quorumBack", recurses := true, apart := false, narrowed := true }
def QuorumBackUptoSaid : Prop := quorumBackUptoRow.holds Try.pinned (OpenSpec.upto quorumBackSpec)

end Rows
end Go.Proofs.Ytakfobllkoghdaa
