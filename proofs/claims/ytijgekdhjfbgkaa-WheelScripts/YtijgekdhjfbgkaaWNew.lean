/- A new wheel. -/
import Derived.Test.YtijgekdhjfbgkaaWSort
namespace Go.Proofs.Ytijgekdhjfbgkaa
open Go.RowKit Whl
set_option linter.unusedVariables false

set_option maxRecDepth 100000 in
set_option maxHeartbeats 800000 in
theorem new_bad (now : Int) (h : now < 0 ∨ 226157759 < now) (w : World) : Calls Try.prog 9 #[.int .i64 now] w fun e w' => e = .returned (.tuple #[.pointer none, .int .i64 30]) ∧ w' = w := by
  rcases h with h | h
  · go_enter Try.func9, Try.ntmps9
    go_wp2
    go_ret2
    exact ⟨rfl, rfl⟩
  · have h0 : decide (now < 0) = false := decide_eq_false (by omega)
    go_enter Try.func9, Try.ntmps9
    go_wp2
    go_ret2
    exact ⟨rfl, rfl⟩
/-- A new wheel's cells. -/
def WC (now : Int) (m : Nat) : Array Value := #[.int .i64 now, .map (some m)] ++ Array.replicate 193 (.slice none 0 0)
set_option maxRecDepth 100000 in
theorem build_new (now : Int) (m : Nat) (w : World) : (Instr.build 54 #[(0, .int .i64 now), (1, .map (some m))]).run Try.prog w = .ok (.agg (WC now m)) w := by kernel_rfl
theorem new_at (w : World) {C : Array Value} {t : TypeId} {q i : Nat} {v : Value} (hq : q = w.heap.size) (h : C[i]? = some v) : (w.alloc (.cells C t)).cell? ⟨q, i, none⟩ = some v := by
  subst hq
  rw [World.cell?_alloc_new]
  exact h
theorem WC_at (now : Int) (m p : Nat) (hp : p < 193) : (WC now m)[2 + p]? = some (.slice none 0 0) := by
  unfold WC
  rw [Array.getElem?_append_right (by simp)]
  simp [hp]
theorem WC_0 (now : Int) (m : Nat) : (WC now m)[0]? = some (.int .i64 now) := by
  unfold WC
  rw [Array.getElem?_append_left (by simp)]
  rfl
theorem WC_1 (now : Int) (m : Nat) : (WC now m)[1]? = some (.map (some m)) := by
  unfold WC
  rw [Array.getElem?_append_left (by simp)]
  rfl
theorem new_wh (now : Int) (h0 : 0 ≤ now) (h1 : now ≤ 226157759) (w : World) : Wh ((w.alloc (Obj.map #[] 0)).alloc (Obj.cells (WC now w.heap.size) 54)) (w.heap.size + 1) now [] (fun k => k = w.heap.size ∨ k = w.heap.size + 1) := by
  refine ⟨w.heap.size, .map [], fun _ => .slice none 0 0, fun _ => [], ⟨?_, ?_, fun p hp => ?_, fun i => ?_, ?_, fun p _ => World.ownsRow_nil _ _ _ _, fun p q _ _ _ k hk => (by cases hk), fun p _ e => (by cases e), fun p _ e => (by cases e), by omega⟩, ⟨.inr rfl, .inl rfl, fun p _ k hk => (by cases hk), fun k hk => ?_⟩, ⟨fun _ => rfl, by simp, rfl⟩, fun p _ => ⟨List.nodup_nil, by simp⟩, Ok.new h0 h1⟩
  · exact new_at _ (by simp) (WC_0 _ _)
  · exact new_at _ (by simp) (WC_1 _ _)
  · exact new_at _ (by simp) (WC_at _ _ p hp)
  · simp
  · exact (World.ownsMap_made w _ _ _).alloc _
  · simp
    omega
theorem wpList_build_new {ops : Array Oper} {rest : List Oper} {a : Act} {w : World} {Q : Exit → Act → World → Prop} {d : Option Tmp} {x y : Operand} {ty : TypeId} {p : String} {af : Array Edge} (now : Int) (m : Nat) (hx : a.eval x = .int .i64 now) (hy : a.eval y = .map (some m))
    (h : wpList Try.prog ops Q rest (a.put d (.agg (WC now m))) w) : wpList Try.prog ops Q (⟨d, .build 54 #[(0, x), (1, y)], ty, p, af, none⟩ :: rest) a w := by
  refine wpList_plain rfl fun K hK => ?_
  unfold Oper.wp execOp
  simp only [List.map_toArray, List.map_cons, List.map_nil, hx, hy, Sem.run_bind, Sem.run_pure, Result.andThen_ok, build_new]
  exact hK _ _ h
set_option maxRecDepth 100000 in
set_option maxHeartbeats 800000 in
theorem new_ok (now : Int) (h0 : 0 ≤ now) (h1 : now ≤ 226157759) (w : World) : Calls Try.prog 9 #[.int .i64 now] w fun e w' => ∃ b F, e = .returned (.tuple #[.pointer (some ⟨b, 0, none⟩), .int .i64 0]) ∧ Wh w' b now [] F ∧ (∀ k, F k → w.heap.size ≤ k) ∧ w.grownBy w' none := by
  have hmm := @run_makeMap Try.prog
  go_enter Try.func9, Try.ntmps9
  go_wp2_with (refine wpList_build_new now _ rfl rfl ?_)
  go_ret2
  refine ⟨_, _, rfl, new_wh now h0 h1 w, fun k hk => ?_, grown_alloc (World.grownBy_alloc w _ none) _⟩
  rcases hk with rfl | rfl <;> omega
end Go.Proofs.Ytijgekdhjfbgkaa
