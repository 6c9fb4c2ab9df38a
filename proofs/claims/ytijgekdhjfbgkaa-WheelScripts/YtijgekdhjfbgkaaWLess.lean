/- Which of two items comes first. -/
import Derived.Test.YtijgekdhjfbgkaaWPure
import Derived.Sort.Grow
import Derived.StillTailTactics
namespace Go.Proofs.Ytijgekdhjfbgkaa
open Go.RowKit
set_option linter.unusedVariables false

/-- A region whose first n operations leave the world as it is and whose rest stands in one order. -/
theorem region_tail {P : Program} {id : Nat} {Q : Exit → Act → World → Prop} {a : Act} {w : World} {l : List Oper} (n : Nat) (hm : P.follows .mixedOrders = true) (hB : Region.lexTailB .any l.toArray n = true)
    (h : wpStill P l.toArray w.drew (fun a' => wpList P l.toArray Q (l.drop n) a' w.drew) (l.take n) a) : (Code.region id l.toArray true).wp P Q a w := wp_region_still_tail n hm hB h
theorem new_cell (w : World) {C : Array Value} {t : TypeId} {q i : Nat} {v : Value} (hq : q = w.heap.size) (h : C[i]? = some v) : ((w.alloc (.cells C t)).drew).cell? ⟨q, i, none⟩ = some v := by
  subst hq
  show (w.alloc (.cells C t)).cell? _ = _
  rw [World.cell?_alloc_new]
  exact h
theorem grow_of2 (w : World) (a b c : Obj) : (((w.alloc a).alloc b).alloc c).drew = Go.Sort.grow (w.drewN 1) #[a, b, c] := by
  have e : ((w.heap.push a).push b).push c = w.heap ++ #[a, b, c] := by apply Array.ext'; simp
  show ({ w with heap := ((w.heap.push a).push b).push c, drawn := w.drawn + 1 } : World) = { w with heap := w.heap ++ #[a, b, c], drawn := w.drawn + 1 }
  rw [e]
set_option maxRecDepth 100000 in
set_option maxHeartbeats 3200000 in
theorem less_any (i t j u : Int) (w : World) : Calls Try.prog 30 #[.agg #[.int .i64 i, .int .i64 t], .agg #[.int .i64 j, .int .i64 u]] w fun e w' => e = .returned (.int .i64 (orI (cmpI t u) (cmpI i j))) ∧ ∃ q os, w' = Go.Sort.grow (w.drewN q) os := by
  have C1 := cmp64
  have C2 := cmp1
  have O : ∀ (a b : Obj) (x y : Int), Calls Try.prog 31 #[.slice (some ⟨w.heap.size + 1 + 1, 0, none⟩) 2 2] (((w.alloc a).alloc b).alloc (.cells #[.int .i64 x, .int .i64 y] 3)).drew fun e w' => e = .returned (.int .i64 (orI x y)) ∧ w' = (((w.alloc a).alloc b).alloc (.cells #[.int .i64 x, .int .i64 y] 3)).drew := fun a b x y => or_any x y _ _ (new_cell _ (by simp) rfl) (new_cell _ (by simp) rfl)
  generalize cmpI = f at C1 C2 ⊢
  go_enter Try.func30, Try.ntmps30
  go_upto_region 1 with fail
  refine region_tail 10 (by kernel_rfl) (by kernel_rfl) ?_
  simp only [List.take_succ_cons, List.take_zero, List.drop_succ_cons, List.drop_zero]
  iterate 4 still_step
  still_call (C1 _ _ _)
  iterate 4 still_step
  still_call (C2 _ _ _)
  refine wpStill_nil ?_
  go_wp2_with (go_at_call 31; (with_reducible refine (O _ _ _ _).mono ?_); rintro e w1 ⟨rfl, rfl⟩)
  go_ret
  exact ⟨rfl, 1, _, grow_of2 _ _ _ _⟩
end Go.Proofs.Ytijgekdhjfbgkaa
