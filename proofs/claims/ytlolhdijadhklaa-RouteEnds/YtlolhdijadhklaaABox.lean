/- Boxes for answers. -/
import Derived.Test.YtlolhdijadhklaaANext
import Derived.Test.YtlolhdijadhklaaASpans
namespace Go.Proofs.Ytlolhdijadhklaa
open Go.RowKit Atl
set_option linter.unusedVariables false
set_option maxRecDepth 10000

theorem box_set {W w3 : World} {b : Nat} {z cs : List Value} (hC : Cs W b z) (hl : cs.length = z.length) (e : w3 = W.setCells b 0 cs) : w3.rangeAt b 0 cs := by
  rw [e]
  exact (hC.sets cs hl).1
theorem box_grown {w W w3 : World} {b : Nat} {cs : List Value} (g : w.grownBy W none) (hb : w.heap.size ≤ b) (e : w3 = W.setCells b 0 cs) : w.grownBy w3 none := by
  rw [e]
  exact grown_more g (grown_setCells _ _ _ _) (fun k e => .inr (by injection e with e; omega))
abbrev zpa : Array Value := #[.int .i64 0, .int .i64 0, .int .i64 0, .int .i64 0, .int .i64 0, .int .i64 0, .int .i64 0, .string ⟨#[]⟩]
abbrev zaa : Array Value := #[.int .i64 0, .int .i64 0, .slice none 0 0, .int .i64 0, .int .i64 0, .int .i64 0, .int .i64 0, .int .i64 0, .int .i64 0, .int .i64 0, .string ⟨#[]⟩]
/-- A map's box, and one for an answer. -/
theorem two_boxes (w : World) (a : Am) (u : S3) (z : Array Value) (t t' : TypeId) (W0 : World) (h : W0 = (w.alloc (.cells (aa a u) t)).alloc (.cells z t')) :
    w.grownBy W0 none ∧ W0.heap.size = w.heap.size + 2 ∧ (∀ W, W0.grownBy W none → W.rangeAt w.heap.size 0 (ac a u)) ∧ (∀ W, W0.grownBy W none → Cs W w.heap.size (ac a u)) ∧ (∀ W, W0.grownBy W none → Cs W (w.heap.size + 1) z.toList) := by
  have hq : (w.alloc (.cells (aa a u) t)).heap.size = w.heap.size + 1 := by simp
  have k1 : ∀ W, W0.grownBy W none → Cs W w.heap.size (ac a u) := fun W g => by rw [h] at g; exact cs_new (grown_tr (World.grownBy_alloc _ _ none) g)
  refine ⟨by rw [h]; exact grown_tr (World.grownBy_alloc _ _ none) (World.grownBy_alloc _ _ none), by rw [h]; simp, fun W g => (k1 W g).1, k1, fun W g => ?_⟩
  rw [h] at g
  have := cs_new g
  rwa [hq] at this

end Go.Proofs.Ytlolhdijadhklaa
