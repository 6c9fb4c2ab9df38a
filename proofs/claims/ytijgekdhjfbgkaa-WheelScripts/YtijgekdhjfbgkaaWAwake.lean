/- What the statements' first look, 'awake', answers. -/
import Derived.Test.YtijgekdhjfbgkaaWItems
namespace Go.Proofs.Ytijgekdhjfbgkaa
open Go.RowKit Go.Sort Whl
set_option linter.unusedVariables false

theorem chg_on {F : Nat → Prop} {w w1 w2 : World} (h : w.grownBy w1 none) (k : Chg F w1 w2) (hF : ∀ b, F b → w.heap.size ≤ b) : w.grownBy w2 none :=
  ((Chg.of (F := fun _ => False) h (by simp)).trans k fun b hb => .inr (hF b hb)).none
theorem Wh.c0 {w : World} {b : Nat} {now : Int} {L : List It} {F : Nat → Prop} (h : Wh w b now L F) : w.cell? ⟨b, 0, none⟩ = some (.int .i64 now) := by
  obtain ⟨bm, D, v, ls, hW, _⟩ := h
  exact hW.c0
theorem Wh.ok {w : World} {b : Nat} {now : Int} {L : List It} {F : Nat → Prop} (h : Wh w b now L F) : Ok now L := by
  obtain ⟨bm, D, v, ls, _, _, _, _, hO⟩ := h
  exact hO
/-- A wheel whose blocks lie from B on. -/
def Ws (B : Nat) (w : World) (b : Nat) (now : Int) (L : List It) : Prop := ∃ F, Wh w b now L F ∧ ∀ k, F k → B ≤ k

set_option maxRecDepth 100000 in
set_option maxHeartbeats 1600000 in
theorem awake_any (w : World) : Calls Try.prog 8 #[] w fun e w' => e = .returned (.bool true) ∧ w.grownBy w' none := by
  have N1 := new_ok 10 (by omega) (by omega) w
  have N2 := fun w => new_bad (-1) (by omega) w
  have I1 : ∀ w b F, Wh w b 10 [] F → Calls Try.prog 10 #[.pointer (some ⟨b, 0, none⟩), .agg #[.int .i64 1, .int .i64 12]] w fun e w' => e = .returned (.int .i64 0) ∧ ∃ F', Wh w' b 10 [(1, 12)] F' ∧ (∀ k, F' k → F k ∨ w.heap.size ≤ k) ∧ Chg F w w' := fun w b F h => insert_any b 10 [] F (1, 12) ⟨by decide, by decide⟩ w h
  have I2 : ∀ w b F, Wh w b 10 [(1, 12)] F → Calls Try.prog 10 #[.pointer (some ⟨b, 0, none⟩), .agg #[.int .i64 2, .int .i64 5000]] w fun e w' => e = .returned (.int .i64 0) ∧ ∃ F', Wh w' b 10 [(1, 12), (2, 5000)] F' ∧ (∀ k, F' k → F k ∨ w.heap.size ≤ k) ∧ Chg F w w' := fun w b F h => insert_any b 10 [(1, 12)] F (2, 5000) ⟨by decide, by decide⟩ w h
  have A1 : ∀ w b F, Wh w b 10 [(1, 12), (2, 5000)] F → Calls Try.prog 14 #[.pointer (some ⟨b, 0, none⟩), .int .i64 4999] w fun e w' => ∃ ad m c, e = .returned (.tuple #[.slice ad m c, .int .i64 0]) ∧ w'.ownsRow w.heap.size 33 2 (.slice ad m c) 1 (cells [(1, 12)]) ∧ ∃ F', Wh w' b 4999 [(2, 5000)] F' ∧ (∀ k, F' k → F k ∨ w.heap.size ≤ k) ∧ (∀ k, (Value.slice ad m c).ownBlock = some k → ¬ F' k) ∧ Chg F w w' := fun w b F h => advance_ok b 10 4999 [(1, 12), (2, 5000)] F (by omega) (by omega) w h
  have A2 : ∀ w b F, Wh w b 4999 [(2, 5000)] F → Calls Try.prog 14 #[.pointer (some ⟨b, 0, none⟩), .int .i64 5000] w fun e w' => ∃ ad m c, e = .returned (.tuple #[.slice ad m c, .int .i64 0]) ∧ w'.ownsRow w.heap.size 33 2 (.slice ad m c) 1 (cells [(2, 5000)]) ∧ ∃ F', Wh w' b 5000 [] F' ∧ (∀ k, F' k → F k ∨ w.heap.size ≤ k) ∧ (∀ k, (Value.slice ad m c).ownBlock = some k → ¬ F' k) ∧ Chg F w w' := fun w b F h => advance_ok b 4999 5000 [(2, 5000)] F (by omega) (by omega) w h
  have IT : ∀ w va, Ri w va [(1, 12)] → Calls Try.prog 16 #[va, .slice (some ⟨w.heap.size, 0, none⟩) 1 1] (w.alloc (.cells #[.int .i64 1, .int .i64 12] 33)) fun e w' => e = .returned (.bool true) ∧ ∃ n, w' = (w.alloc (.cells #[.int .i64 1, .int .i64 12] 33)).drewN n := fun w va h => items_same va _ [(1, 12)] (by decide) _ (h.grown (World.grownBy_alloc w _ none)) ⟨_, _, rfl, .inr ⟨w.heap.size, 0, rfl, fun j a hj => by
    match j, hj with
    | 0, hj => simp at hj; subst hj; exact ⟨new_at w rfl rfl, new_at w rfl rfl⟩
    | j + 1, hj => simp at hj⟩⟩
  have NW := fun b w => now_any b 5000 w
  go_enter Try.func8, Try.ntmps8
  go_wp2_with (first
    | (go_at_call 9; (with_reducible refine N1.mono ?_); rintro e w1 ⟨b, F1, rfl, h1, f1, k1⟩)
    | (go_at_call 9; (with_reducible refine (N2 _).mono ?_); rintro e w6 ⟨rfl, e6⟩; have e6' := e6.symm; clear e6; subst e6')
    | (go_at_call 10; (with_reducible refine (I1 _ _ _ h1).mono ?_); rintro e w2 ⟨rfl, F2, h2, f2', c2⟩; have k2 := chg_on k1 c2 f1; have f2 : ∀ k, F2 k → w.heap.size ≤ k := (fun k hk => by rcases f2' k hk with e | e; exact f1 k e; have := k1.size; omega))
    | (go_at_call 10; (with_reducible refine (I2 _ _ _ h2).mono ?_); rintro e w3 ⟨rfl, F3, h3, f3', c3⟩; have k3 := chg_on k2 c3 f2; have f3 : ∀ k, F3 k → w.heap.size ≤ k := (fun k hk => by rcases f3' k hk with e | e; exact f2 k e; have := k2.size; omega))
    | (go_at_call 14; (with_reducible refine (A1 _ _ _ h3).mono ?_); rintro e w4 ⟨ad4, m4, cc4, rfl, o4, F4, h4, f4', g4, c4⟩; have k4 := chg_on k3 c4 f3; have f4 : ∀ k, F4 k → w.heap.size ≤ k := (fun k hk => by rcases f4' k hk with e | e; exact f3 k e; have := k3.size; omega); have r4 := Ri.of_own o4)
    | (go_at_call 14; (with_reducible refine (A2 _ _ _ h4).mono ?_); rintro e w5 ⟨ad5, m5, cc5, rfl, o5, F5, h5, f5', g5, c5⟩; have k5 := chg_on k4 c5 f4; have r5 := r4.kept c5 g4; have l5 := owns_len o5; subst l5; have n5 := h5.c0)
    | (go_at_call 16; (with_reducible refine (IT _ _ r5).mono ?_); rintro e w7 ⟨rfl, n7, e7⟩; have g7 : w5.grownBy w7 none := (by rw [e7]; exact grown_drewN (World.grownBy_alloc w5 _ none) _); have n7 := g7.cell n5 (by simp); clear e7)
    | (go_at_call 17; (with_reducible refine (NW _ _ n7).mono ?_); rintro e w8 ⟨rfl, e8⟩; have e8' := e8.symm; clear e8; subst e8'))
  go_ret
  exact ⟨rfl, grown_more k5 g7 (by simp)⟩
end Go.Proofs.Ytijgekdhjfbgkaa
