/- What the document's own 'Check', 'Day', 'Fits' answer. -/
import Derived.Test.YthjfecniipifhaaDoorKRef
import Derived.Test.YthjfecniipifhaaDoorKRefTo
import Derived.Test.YthjfecniipifhaaDoorKFits
namespace Go.Proofs.YthjfecniipifhaaDoor
open Go.RowKit
set_option linter.unusedVariables false

set_option maxRecDepth 100000 in
set_option maxHeartbeats 1600000 in
/-- 'Check', by what 'right' says of each field. -/
theorem rCheck_by (m0 m1 m2 m3 m4 : Nat) (ad aw b0 b1 b2 b3 b4 q2 q4 : Bool) (U2 U4 : Nat) (e2 : ((m2 : Int) == (U2 : Int)) = q2) (e4 : ((m4 : Int) == (U4 : Int)) = q4)
    (R0 : ∀ w, Calls Tryd.prog 30 #[.int .u64 m0, .int .i64 0] w fun e w' => e = .returned (.bool b0) ∧ w' = w)
    (R1 : ∀ w, Calls Tryd.prog 30 #[.int .u64 m1, .int .i64 1] w fun e w' => e = .returned (.bool b1) ∧ w' = w)
    (R2 : ∀ w, Calls Tryd.prog 30 #[.int .u64 m2, .int .i64 2] w fun e w' => e = .returned (.bool b2) ∧ w' = w)
    (R3 : ∀ w, Calls Tryd.prog 30 #[.int .u64 m3, .int .i64 3] w fun e w' => e = .returned (.bool b3) ∧ w' = w)
    (R4 : ∀ w, Calls Tryd.prog 30 #[.int .u64 m4, .int .i64 4] w fun e w' => e = .returned (.bool b4) ∧ w' = w)
    (F2 : ∀ w, Calls Tryd.prog 28 #[.int .i64 2] w fun e w' => e = .returned (.int .u64 U2) ∧ w' = w)
    (F4 : ∀ w, Calls Tryd.prog 28 #[.int .i64 4] w fun e w' => e = .returned (.int .u64 U4) ∧ w' = w) (w : World) :
    Calls Tryd.prog 15 #[.agg #[.int .u64 m0, .int .u64 m1, .int .u64 m2, .int .u64 m3, .int .u64 m4, .bool ad, .bool aw]] w fun e w' => e = .returned (.bool (b0 && (b1 && (b2 && (b3 && (b4 && ((!ad || q2) && (!aw || q4)))))))) ∧ w.grownBy w' none := by
  cases b0 with
  | false =>
    go_enter Tryd.func15, Tryd.ntmps15
    go_wp2_with (first
      | (go_at_call 30; (with_reducible refine (R0 _).mono ?_); rintro e w1 ⟨rfl, rfl⟩)
      | (go_at_call 30; (with_reducible refine (R1 _).mono ?_); rintro e w1 ⟨rfl, rfl⟩)
      | (go_at_call 30; (with_reducible refine (R2 _).mono ?_); rintro e w1 ⟨rfl, rfl⟩)
      | (go_at_call 30; (with_reducible refine (R3 _).mono ?_); rintro e w1 ⟨rfl, rfl⟩)
      | (go_at_call 30; (with_reducible refine (R4 _).mono ?_); rintro e w1 ⟨rfl, rfl⟩))
    go_ret
    exact ⟨rfl, World.grownBy_alloc w _ none⟩
  | true =>
    cases b1 with
    | false =>
      go_enter Tryd.func15, Tryd.ntmps15
      go_wp2_with (first
        | (go_at_call 30; (with_reducible refine (R0 _).mono ?_); rintro e w1 ⟨rfl, rfl⟩)
        | (go_at_call 30; (with_reducible refine (R1 _).mono ?_); rintro e w1 ⟨rfl, rfl⟩)
        | (go_at_call 30; (with_reducible refine (R2 _).mono ?_); rintro e w1 ⟨rfl, rfl⟩)
        | (go_at_call 30; (with_reducible refine (R3 _).mono ?_); rintro e w1 ⟨rfl, rfl⟩)
        | (go_at_call 30; (with_reducible refine (R4 _).mono ?_); rintro e w1 ⟨rfl, rfl⟩))
      go_ret
      exact ⟨rfl, World.grownBy_alloc w _ none⟩
    | true =>
      cases b2 with
      | false =>
        go_enter Tryd.func15, Tryd.ntmps15
        go_wp2_with (first
          | (go_at_call 30; (with_reducible refine (R0 _).mono ?_); rintro e w1 ⟨rfl, rfl⟩)
          | (go_at_call 30; (with_reducible refine (R1 _).mono ?_); rintro e w1 ⟨rfl, rfl⟩)
          | (go_at_call 30; (with_reducible refine (R2 _).mono ?_); rintro e w1 ⟨rfl, rfl⟩)
          | (go_at_call 30; (with_reducible refine (R3 _).mono ?_); rintro e w1 ⟨rfl, rfl⟩)
          | (go_at_call 30; (with_reducible refine (R4 _).mono ?_); rintro e w1 ⟨rfl, rfl⟩))
        go_ret
        exact ⟨rfl, World.grownBy_alloc w _ none⟩
      | true =>
        cases b3 with
        | false =>
          go_enter Tryd.func15, Tryd.ntmps15
          go_wp2_with (first
            | (go_at_call 30; (with_reducible refine (R0 _).mono ?_); rintro e w1 ⟨rfl, rfl⟩)
            | (go_at_call 30; (with_reducible refine (R1 _).mono ?_); rintro e w1 ⟨rfl, rfl⟩)
            | (go_at_call 30; (with_reducible refine (R2 _).mono ?_); rintro e w1 ⟨rfl, rfl⟩)
            | (go_at_call 30; (with_reducible refine (R3 _).mono ?_); rintro e w1 ⟨rfl, rfl⟩)
            | (go_at_call 30; (with_reducible refine (R4 _).mono ?_); rintro e w1 ⟨rfl, rfl⟩))
          go_ret
          exact ⟨rfl, World.grownBy_alloc w _ none⟩
        | true =>
          cases b4 with
          | false =>
            go_enter Tryd.func15, Tryd.ntmps15
            go_wp2_with (first
              | (go_at_call 30; (with_reducible refine (R0 _).mono ?_); rintro e w1 ⟨rfl, rfl⟩)
              | (go_at_call 30; (with_reducible refine (R1 _).mono ?_); rintro e w1 ⟨rfl, rfl⟩)
              | (go_at_call 30; (with_reducible refine (R2 _).mono ?_); rintro e w1 ⟨rfl, rfl⟩)
              | (go_at_call 30; (with_reducible refine (R3 _).mono ?_); rintro e w1 ⟨rfl, rfl⟩)
              | (go_at_call 30; (with_reducible refine (R4 _).mono ?_); rintro e w1 ⟨rfl, rfl⟩))
            go_ret
            exact ⟨rfl, World.grownBy_alloc w _ none⟩
          | true =>
            cases ad <;> cases aw <;> cases q2 <;> cases q4
            all_goals
              go_enter Tryd.func15, Tryd.ntmps15
              go_wp2_with (first
                | (go_at_call 30; (with_reducible refine (R0 _).mono ?_); rintro e w1 ⟨rfl, rfl⟩)
                | (go_at_call 30; (with_reducible refine (R1 _).mono ?_); rintro e w1 ⟨rfl, rfl⟩)
                | (go_at_call 30; (with_reducible refine (R2 _).mono ?_); rintro e w1 ⟨rfl, rfl⟩)
                | (go_at_call 30; (with_reducible refine (R3 _).mono ?_); rintro e w1 ⟨rfl, rfl⟩)
                | (go_at_call 30; (with_reducible refine (R4 _).mono ?_); rintro e w1 ⟨rfl, rfl⟩))
              go_quiet (first | (go_at_call 28; with_reducible refine Calls.quiet_of_same (F2 _)) | (go_at_call 28; with_reducible refine Calls.quiet_of_same (F4 _)))
              go_wp2
              go_ret
              exact ⟨rfl, grown_drewN (World.grownBy_alloc w _ none) _⟩

theorem rCheck (c : Cro.C) (hc : c.ok) (w : World) : Calls Tryd.prog 15 #[crv c] w fun e w' => e = .returned (.bool (decide c.right)) ∧ w.grownBy w' none := by
  have := rCheck_by c.mi c.ho c.da c.mo c.we c.ad c.aw _ _ _ _ _ _ _ _ _ rfl rfl (rRight c.mi 0 (by omega) hc.mi) (rRight c.ho 1 (by omega) hc.ho) (rRight c.da 2 (by omega) hc.da) (rRight c.mo 3 (by omega) hc.mo) (rRight c.we 4 (by omega) hc.we) (rFull 2 (by omega)) (rFull 4 (by omega)) w
  refine this.mono ?_
  rintro e w' ⟨rfl, hg⟩
  refine ⟨ret_bool ?_, hg⟩
  rw [Bool.eq_iff_iff]
  simp only [Bool.and_eq_true, Bool.or_eq_true, decide_eq_true_iff, beq_iff_eq, Bool.not_eq_true']
  have i2 : ((c.da : Int) = ((Cro.sp 2).full : Int)) ↔ c.da = (Cro.sp 2).full := by omega
  have i4 : ((c.we : Int) = ((Cro.sp 4).full : Int)) ↔ c.we = (Cro.sp 4).full := by omega
  rw [i2, i4]
  have k2 : (c.ad = false ∨ c.da = (Cro.sp 2).full) ↔ (c.ad = true → c.da = (Cro.sp 2).full) := by cases c.ad <;> simp
  have k4 : (c.aw = false ∨ c.we = (Cro.sp 4).full) ↔ (c.aw = true → c.we = (Cro.sp 4).full) := by cases c.aw <;> simp
  rw [k2, k4]
  exact ⟨fun ⟨a, b, c', d, e, f⟩ => ⟨⟨a, b, c', d, e⟩, f⟩, fun ⟨⟨a, b, c', d, e⟩, f⟩ => ⟨a, b, c', d, e, f⟩⟩

set_option maxRecDepth 100000 in
set_option maxHeartbeats 1600000 in
theorem rDay_by (c : Cro.C) (y : Int) (M D H N K : Nat) (b3 b4 b5 : Bool)
    (H3 : ∀ w, Calls Tryd.prog 34 #[.int .u64 c.mo, .int .i64 M] w fun e w' => e = .returned (.bool b3) ∧ w' = w)
    (H4 : ∀ w, Calls Tryd.prog 34 #[.int .u64 c.da, .int .i64 D] w fun e w' => e = .returned (.bool b4) ∧ w' = w)
    (H5 : ∀ w, Calls Tryd.prog 34 #[.int .u64 c.we, .int .i64 K] w fun e w' => e = .returned (.bool b5) ∧ w' = w) (w : World) :
    Calls Tryd.prog 35 #[crv c, civ y M D H N K] w fun e w' => e = .returned (.bool (b3 && (if c.ad || c.aw then b4 && b5 else b4 || b5))) ∧ w.grownBy w' none := by
  obtain ⟨m0, m1, m2, m3, m4, ad, aw⟩ := c
  simp only at H3 H4 H5 ⊢
  cases b3 <;> cases ad <;> cases aw <;> cases b4
  all_goals
    go_enter Tryd.func35, Tryd.ntmps35
    go_wp2_with (first
      | (go_at_call 34; (with_reducible refine (H3 _).mono ?_); rintro e w3 ⟨rfl, rfl⟩)
      | (go_at_call 34; (with_reducible refine (H4 _).mono ?_); rintro e w3 ⟨rfl, rfl⟩)
      | (go_at_call 34; (with_reducible refine (H5 _).mono ?_); rintro e w3 ⟨rfl, rfl⟩))
    go_ret
    exact ⟨rfl, grown_alloc (World.grownBy_alloc w _ none) _⟩
end Go.Proofs.YthjfecniipifhaaDoor
