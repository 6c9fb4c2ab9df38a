/- stands. -/
import Derived.Test.YtlolhdijadhklaaAPlace
namespace Go.Proofs.Ytlolhdijadhklaa
open Go.RowKit Atl
set_option linter.unusedVariables false
set_option maxRecDepth 10000

set_option maxRecDepth 100000 in
set_option maxHeartbeats 3200000 in
theorem stands_any (p : Pl) (s : Sp) (e1 : 1 ≤ p.ep) (e2 : p.ep ≤ 1099511627774) (w : World) : Calls Try.prog 75 #[pv p, sv s] w fun e w' => e = .returned (.bool (stB p s)) ∧ w.grownBy w' none := by
  have w1 : IntKind.i64.wrap (p.ep + 1) = p.ep + 1 := by rw [IntKind.wrap_i64]; omega
  have w2 : IntKind.i64.wrap (p.ep + 2) = p.ep + 2 := by rw [IntKind.wrap_i64]; omega
  have G0 : w.grownBy ((w.alloc (.cells (pa p) 24)).alloc (.cells (sa s) 29)) none := grown_tr (World.grownBy_alloc _ _ none) (World.grownBy_alloc _ _ none)
  have GG : Hid (w.grownBy _ none) := G0
  clear e1 e2 G0
  cases b1 : (p.k == 1) with
  | true =>
    have b1O : Hid (p.k = 1) := by have := b1; show _ = _; simpa using this
    cases b2 : (p.ph == 1) with
    | true =>
      have b2O : Hid (p.ph = 1) := by have := b2; show _ = _; simpa using this
      cases b6 : (s.gr == p.pa) with
      | true =>
        have b6O : Hid (s.gr = p.pa) := by have := b6; show _ = _; simpa using this
        go_enter Try.func75, Try.ntmps75
        go_wp2_with fail
        go_ret
        exact ⟨ret_bool (by rw [Bool.eq_iff_iff]; simp [stB, b1O.out, b2O.out, b6O.out]), GG.out⟩
      | false =>
        have b6O : Hid (¬ s.gr = p.pa) := by have := b6; show ¬ _; simpa using this
        go_enter Try.func75, Try.ntmps75
        go_wp2_with fail
        go_ret
        exact ⟨ret_bool (by rw [Bool.eq_iff_iff]; simp [stB, b1O.out, b2O.out, b6O.out]), GG.out⟩
    | false =>
      have b2O : Hid (¬ p.ph = 1) := by have := b2; show ¬ _; simpa using this
      cases b3 : (p.ph == 9) with
      | true =>
        have b3O : Hid (p.ph = 9) := by have := b3; show _ = _; simpa using this
        cases b6 : (s.gr == p.pa) with
        | true =>
          have b6O : Hid (s.gr = p.pa) := by have := b6; show _ = _; simpa using this
          go_enter Try.func75, Try.ntmps75
          go_wp2_with fail
          go_ret
          exact ⟨ret_bool (by rw [Bool.eq_iff_iff]; simp [stB, b1O.out, b3O.out, b6O.out]), GG.out⟩
        | false =>
          have b6O : Hid (¬ s.gr = p.pa) := by have := b6; show ¬ _; simpa using this
          go_enter Try.func75, Try.ntmps75
          go_wp2_with fail
          go_ret
          exact ⟨ret_bool (by rw [Bool.eq_iff_iff]; simp [stB, b1O.out, b3O.out, b6O.out]), GG.out⟩
      | false =>
        have b3O : Hid (¬ p.ph = 9) := by have := b3; show ¬ _; simpa using this
        cases b4 : (p.ph == 2) with
        | true =>
          have b4O : Hid (p.ph = 2) := by have := b4; show _ = _; simpa using this
          cases b6 : (s.gr == p.gp) with
          | true =>
            have b6O : Hid (s.gr = p.gp) := by have := b6; show _ = _; simpa using this
            go_enter Try.func75, Try.ntmps75
            go_wp2_with fail
            go_ret
            exact ⟨ret_bool (by rw [Bool.eq_iff_iff]; simp [stB, b1O.out, b4O.out, b6O.out]), GG.out⟩
          | false =>
            have b6O : Hid (¬ s.gr = p.gp) := by have := b6; show ¬ _; simpa using this
            go_enter Try.func75, Try.ntmps75
            go_wp2_with fail
            go_ret
            exact ⟨ret_bool (by rw [Bool.eq_iff_iff]; simp [stB, b1O.out, b4O.out, b6O.out]), GG.out⟩
        | false =>
          have b4O : Hid (¬ p.ph = 2) := by have := b4; show ¬ _; simpa using this
          cases b5 : (p.ph == 3) with
          | true =>
            have b5O : Hid (p.ph = 3) := by have := b5; show _ = _; simpa using this
            cases b6 : (s.gr == p.gp) with
            | true =>
              have b6O : Hid (s.gr = p.gp) := by have := b6; show _ = _; simpa using this
              go_enter Try.func75, Try.ntmps75
              go_wp2_with fail
              go_ret
              exact ⟨ret_bool (by rw [Bool.eq_iff_iff]; simp [stB, b1O.out, b5O.out, b6O.out]), GG.out⟩
            | false =>
              have b6O : Hid (¬ s.gr = p.gp) := by have := b6; show ¬ _; simpa using this
              go_enter Try.func75, Try.ntmps75
              go_wp2_with fail
              go_ret
              exact ⟨ret_bool (by rw [Bool.eq_iff_iff]; simp [stB, b1O.out, b5O.out, b6O.out]), GG.out⟩
          | false =>
            have b5O : Hid (¬ p.ph = 3) := by have := b5; show ¬ _; simpa using this
            go_enter Try.func75, Try.ntmps75
            go_wp2_with fail
            go_ret
            exact ⟨ret_bool (by rw [Bool.eq_iff_iff]; simp [stB, b1O.out, b2O.out, b3O.out, b4O.out, b5O.out]), GG.out⟩
  | false =>
    have b1O : Hid (¬ p.k = 1) := by have := b1; show ¬ _; simpa using this
    cases b2 : (p.ph == 1) with
    | true =>
      have b2O : Hid (p.ph = 1) := by have := b2; show _ = _; simpa using this
      cases b6 : (s.gr == p.gp) with
      | true =>
        have b6O : Hid (s.gr = p.gp) := by have := b6; show _ = _; simpa using this
        go_enter Try.func75, Try.ntmps75
        go_wp2_with fail
        go_ret
        exact ⟨ret_bool (by rw [Bool.eq_iff_iff]; simp [stB, b1O.out, b2O.out, b6O.out]), GG.out⟩
      | false =>
        have b6O : Hid (¬ s.gr = p.gp) := by have := b6; show ¬ _; simpa using this
        go_enter Try.func75, Try.ntmps75
        go_wp2_with fail
        go_ret
        exact ⟨ret_bool (by rw [Bool.eq_iff_iff]; simp [stB, b1O.out, b2O.out, b6O.out]), GG.out⟩
    | false =>
      have b2O : Hid (¬ p.ph = 1) := by have := b2; show ¬ _; simpa using this
      cases b3 : (p.ph == 9) with
      | true =>
        have b3O : Hid (p.ph = 9) := by have := b3; show _ = _; simpa using this
        cases b6 : (s.gr == p.gp) with
        | true =>
          have b6O : Hid (s.gr = p.gp) := by have := b6; show _ = _; simpa using this
          go_enter Try.func75, Try.ntmps75
          go_wp2_with fail
          go_ret
          exact ⟨ret_bool (by rw [Bool.eq_iff_iff]; simp [stB, b1O.out, b3O.out, b6O.out]), GG.out⟩
        | false =>
          have b6O : Hid (¬ s.gr = p.gp) := by have := b6; show ¬ _; simpa using this
          go_enter Try.func75, Try.ntmps75
          go_wp2_with fail
          go_ret
          exact ⟨ret_bool (by rw [Bool.eq_iff_iff]; simp [stB, b1O.out, b3O.out, b6O.out]), GG.out⟩
      | false =>
        have b3O : Hid (¬ p.ph = 9) := by have := b3; show ¬ _; simpa using this
        go_enter Try.func75, Try.ntmps75
        go_wp2_with fail
        go_ret
        exact ⟨ret_bool (by rw [Bool.eq_iff_iff]; simp [stB, b1O.out, b2O.out, b3O.out]), GG.out⟩
end Go.Proofs.Ytlolhdijadhklaa
