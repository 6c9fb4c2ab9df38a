/- Zones in memory; what 'Make' answers. -/
import Derived.Test.YteiiapnpdfgoaaaDoorVTo
import Derived.Test.YteiiapnpdfgoaaaDoorZMath
import Derived.Handy
namespace Go.Proofs.YteiiapnpdfgoaaaDoor
open Go.RowKit
set_option linter.unusedVariables false

/-- A rule, and a zone's rules, as values. -/
abbrev rul (r : Zon.R) : Value := .agg #[.int .i64 r.m, .int .i64 r.k, .int .i64 r.d, .int .i64 r.a]
abbrev zon (z : Zon.Z) : Value := .agg #[.int .i64 z.b, .int .i64 z.s, .int .i64 z.on.m, .int .i64 z.on.k, .int .i64 z.on.d, .int .i64 z.on.a, .int .i64 z.off.m, .int .i64 z.off.k, .int .i64 z.off.d, .int .i64 z.off.a]

theorem within_any (n a b : Int) (w : World) :
    Calls Tryd.prog 38 #[.int .i64 n, .int .i64 a, .int .i64 b] w fun e w' => e = .returned (.bool (decide (a ≤ n ∧ n ≤ b))) ∧ w' = w := by
  by_cases h : a ≤ n
  · go_enter Tryd.func38, Tryd.ntmps38
    go_wp2
    go_ret
    refine ⟨ret_bool ?_, rfl⟩
    simp [h]
  · have g : decide (a ≤ n) = false := decide_eq_false h
    go_enter Tryd.func38, Tryd.ntmps38
    go_wp2
    go_ret
    refine ⟨ret_bool ?_, rfl⟩
    simp

set_option maxRecDepth 100000 in
set_option maxHeartbeats 400000 in
theorem rightRule_any (m k d a : Int) (w : World) :
    Calls Tryd.prog 39 #[.agg #[.int .i64 m, .int .i64 k, .int .i64 d, .int .i64 a]] w fun e w' => e = .returned (.bool (decide (1 ≤ m ∧ m ≤ 12 ∧ 1 ≤ k ∧ k ≤ 5 ∧ 0 ≤ d ∧ d ≤ 6 ∧ 0 ≤ a ∧ a ≤ 1439))) ∧ w.grownBy w' none := by
  have W1 := within_any m 1 12
  have W2 := within_any k 1 5
  have W3 := within_any d 0 6
  have W4 := within_any a 0 1439
  obtain ⟨b1, h1⟩ : ∃ b, b = decide (1 ≤ m ∧ m ≤ 12) := ⟨_, rfl⟩
  obtain ⟨b2, h2⟩ : ∃ b, b = decide (1 ≤ k ∧ k ≤ 5) := ⟨_, rfl⟩
  obtain ⟨b3, h3⟩ : ∃ b, b = decide (0 ≤ d ∧ d ≤ 6) := ⟨_, rfl⟩
  obtain ⟨b4, h4⟩ : ∃ b, b = decide (0 ≤ a ∧ a ≤ 1439) := ⟨_, rfl⟩
  have e : decide (1 ≤ m ∧ m ≤ 12 ∧ 1 ≤ k ∧ k ≤ 5 ∧ 0 ≤ d ∧ d ≤ 6 ∧ 0 ≤ a ∧ a ≤ 1439) = (b1 && (b2 && (b3 && b4))) := by
    rw [h1, h2, h3, h4, ← Bool.decide_and, ← Bool.decide_and, ← Bool.decide_and]
    exact decide_eq_decide.mpr (by omega)
  rw [e]
  rw [← h1] at W1
  rw [← h2] at W2
  rw [← h3] at W3
  rw [← h4] at W4
  clear e h1 h2 h3 h4
  cases b1 <;> cases b2 <;> cases b3
  all_goals
    go_enter Tryd.func39, Tryd.ntmps39
    go_wp2_with (first
      | (go_at_call 38; have _t := W1; go_must (refine (W1 _).mono ?_); rintro e w1 ⟨rfl, rfl⟩; clear W1)
      | (go_at_call 38; have _t := W2; go_must (refine (W2 _).mono ?_); rintro e w1 ⟨rfl, rfl⟩; clear W2)
      | (go_at_call 38; have _t := W3; go_must (refine (W3 _).mono ?_); rintro e w1 ⟨rfl, rfl⟩; clear W3)
      | (go_at_call 38; have _t := W4; go_must (refine (W4 _).mono ?_); rintro e w1 ⟨rfl, rfl⟩; clear W4))
    go_ret
    exact ⟨rfl, World.grownBy_alloc w _ none⟩

theorem cell_kept2 {w w1 : World} {C : Array Value} {t : TypeId} {o : Obj} (hg : ((w.alloc (.cells C t)).alloc o).grownBy w1 none) (i : Nat) (v : Value) (h : C[i]? = some v) : w1.cell? ⟨w.heap.size, i, none⟩ = some v :=
  cell_kept (grown_more (World.grownBy_alloc _ o none) hg (by simp)) i v h
theorem bne_iff_ne_decide (a b : Int) : (a != b) = decide (a ≠ b) := by
  by_cases h : a = b
  · simp [h]
  · simp [h]
theorem eql_nil (m k d a : Int) (w : World) : (binOp .eql 31 (.agg #[.int .i64 m, .int .i64 k, .int .i64 d, .int .i64 a]) (.agg #[.int .i64 0, .int .i64 0, .int .i64 0, .int .i64 0])).run Tryd.prog w = .ok (.bool (decide (m = 0 ∧ k = 0 ∧ d = 0 ∧ a = 0))) w := by
  by_cases h1 : m = 0 <;> by_cases h2 : k = 0 <;> by_cases h3 : d = 0 <;> by_cases h4 : a = 0
  all_goals go_simp

set_option maxRecDepth 100000 in
set_option maxHeartbeats 800000 in
theorem right0 (b s m1 k1 d1 a1 m2 k2 d2 a2 : Int) (w : World) :
    Calls Tryd.prog 23 #[.agg #[.int .i64 b, .int .i64 s, .int .i64 m1, .int .i64 k1, .int .i64 d1, .int .i64 a1, .int .i64 m2, .int .i64 k2, .int .i64 d2, .int .i64 a2]] w
      fun e w' => e = .returned (.bool (decide (Zon.Z.ok ⟨b, s, ⟨m1, k1, d1, a1⟩, ⟨m2, k2, d2, a2⟩⟩))) ∧ w.grownBy w' none := by
  have hnot : ∀ (x : Bool) (w : World), (Op.unary .not (.bool x)).run Tryd.prog w = .ok (.bool (!x)) w := fun _ _ => rfl
  have hga : ∀ o p, w.grownBy ((w.alloc o).alloc p) none := fun o p => grown_alloc (World.grownBy_alloc w o none) p
  have W1 := within_any b (-720) 840
  have W2 := within_any s 0 120
  by_cases h1 : -720 ≤ b ∧ b ≤ 840
  case neg =>
    rw [decide_eq_false h1] at W1
    have e : decide (Zon.Z.ok ⟨b, s, ⟨m1, k1, d1, a1⟩, ⟨m2, k2, d2, a2⟩⟩) = false := decide_eq_false fun h => h1 ⟨h.1, h.2.1⟩
    rw [e]
    clear e h1 W2
    go_enter Tryd.func23, Tryd.ntmps23
    go_wp2_with (go_at_call 38; go_must (refine (W1 _).mono ?_); rintro e w1 ⟨rfl, rfl⟩)
    go_ret
    exact ⟨rfl, World.grownBy_alloc w _ none⟩
  case pos =>
    rw [decide_eq_true h1] at W1
    by_cases h2 : 0 ≤ s ∧ s ≤ 120
    case neg =>
      rw [decide_eq_false h2] at W2
      have e : decide (Zon.Z.ok ⟨b, s, ⟨m1, k1, d1, a1⟩, ⟨m2, k2, d2, a2⟩⟩) = false := decide_eq_false fun h => h2 ⟨h.2.2.1, h.2.2.2.1⟩
      rw [e]
      clear e h1 h2
      go_enter Tryd.func23, Tryd.ntmps23
      go_wp2_with (first
        | (go_at_call 38; have _t := W1; go_must (refine (W1 _).mono ?_); rintro e w1 ⟨rfl, rfl⟩; clear W1)
        | (go_at_call 38; go_must (refine (W2 _).mono ?_); rintro e w1 ⟨rfl, rfl⟩))
      go_ret
      exact ⟨rfl, World.grownBy_alloc w _ none⟩
    case pos =>
      rw [decide_eq_true h2] at W2
      have E : ∀ c : Bool, decide (Zon.Z.ok ⟨b, s, ⟨m1, k1, d1, a1⟩, ⟨m2, k2, d2, a2⟩⟩) = c ↔ decide ((s = 0 ∧ (m1 = 0 ∧ k1 = 0 ∧ d1 = 0 ∧ a1 = 0) ∧ (m2 = 0 ∧ k2 = 0 ∧ d2 = 0 ∧ a2 = 0)) ∨ Zon.Z.two ⟨b, s, ⟨m1, k1, d1, a1⟩, ⟨m2, k2, d2, a2⟩⟩) = c := fun c => by
        rw [show decide (Zon.Z.ok ⟨b, s, ⟨m1, k1, d1, a1⟩, ⟨m2, k2, d2, a2⟩⟩) = decide ((s = 0 ∧ (m1 = 0 ∧ k1 = 0 ∧ d1 = 0 ∧ a1 = 0) ∧ (m2 = 0 ∧ k2 = 0 ∧ d2 = 0 ∧ a2 = 0)) ∨ Zon.Z.two ⟨b, s, ⟨m1, k1, d1, a1⟩, ⟨m2, k2, d2, a2⟩⟩) from decide_eq_decide.mpr ⟨fun h => h.2.2.2.2, fun h => ⟨h1.1, h1.2, h2.1, h2.2, h⟩⟩]
      obtain ⟨r, hr⟩ : ∃ r, r = decide (Zon.Z.ok ⟨b, s, ⟨m1, k1, d1, a1⟩, ⟨m2, k2, d2, a2⟩⟩) := ⟨_, rfl⟩
      have HR : Hid (decide ((s = 0 ∧ (m1 = 0 ∧ k1 = 0 ∧ d1 = 0 ∧ a1 = 0) ∧ (m2 = 0 ∧ k2 = 0 ∧ d2 = 0 ∧ a2 = 0)) ∨ Zon.Z.two ⟨b, s, ⟨m1, k1, d1, a1⟩, ⟨m2, k2, d2, a2⟩⟩) = r) := (E r).mp hr.symm
      rw [← hr]
      clear E hr h1 h2
      have R1 := rightRule_any m1 k1 d1 a1
      have R2 := rightRule_any m2 k2 d2 a2
      obtain ⟨b1, hb1⟩ : ∃ b, b = decide (1 ≤ m1 ∧ m1 ≤ 12 ∧ 1 ≤ k1 ∧ k1 ≤ 5 ∧ 0 ≤ d1 ∧ d1 ≤ 6 ∧ 0 ≤ a1 ∧ a1 ≤ 1439) := ⟨_, rfl⟩
      obtain ⟨b2, hb2⟩ : ∃ b, b = decide (1 ≤ m2 ∧ m2 ≤ 12 ∧ 1 ≤ k2 ∧ k2 ≤ 5 ∧ 0 ≤ d2 ∧ d2 ≤ 6 ∧ 0 ≤ a2 ∧ a2 ≤ 1439) := ⟨_, rfl⟩
      rw [← hb1] at R1
      rw [← hb2] at R2
      by_cases hz : s = 0 ∧ (m1 = 0 ∧ k1 = 0 ∧ d1 = 0 ∧ a1 = 0) ∧ (m2 = 0 ∧ k2 = 0 ∧ d2 = 0 ∧ a2 = 0)
      case pos =>
        obtain ⟨rfl, ⟨rfl, rfl, rfl, rfl⟩, ⟨rfl, rfl, rfl, rfl⟩⟩ := hz
        have hr : r = true := by rw [← HR.out]; simp
        subst hr
        clear HR R1 R2 hb1 hb2
        go_enter Tryd.func23, Tryd.ntmps23
        go_wp2_with (first
          | (go_at_call 38; have _t := W1; go_must (refine (W1 _).mono ?_); rintro e w1 ⟨rfl, rfl⟩; clear W1)
          | (go_at_call 38; have _t := W2; go_must (refine (W2 _).mono ?_); rintro e w1 ⟨rfl, rfl⟩; clear W2))
        go_ret
        exact ⟨rfl, hga _ _⟩
      case neg =>
        have E1 : ∀ w, (binOp .eql 31 (.agg #[.int .i64 m1, .int .i64 k1, .int .i64 d1, .int .i64 a1]) (.agg #[.int .i64 0, .int .i64 0, .int .i64 0, .int .i64 0])).run Tryd.prog w = .ok (.bool (decide (m1 = 0 ∧ k1 = 0 ∧ d1 = 0 ∧ a1 = 0))) w := eql_nil m1 k1 d1 a1
        have E2 : ∀ w, (binOp .eql 31 (.agg #[.int .i64 m2, .int .i64 k2, .int .i64 d2, .int .i64 a2]) (.agg #[.int .i64 0, .int .i64 0, .int .i64 0, .int .i64 0])).run Tryd.prog w = .ok (.bool (decide (m2 = 0 ∧ k2 = 0 ∧ d2 = 0 ∧ a2 = 0))) w := eql_nil m2 k2 d2 a2
        have HZ : Hid (¬ (s = 0 ∧ (m1 = 0 ∧ k1 = 0 ∧ d1 = 0 ∧ a1 = 0) ∧ (m2 = 0 ∧ k2 = 0 ∧ d2 = 0 ∧ a2 = 0))) := hz
        have hr : Hid (r = (b1 && (b2 && (m1 != m2)))) := by
          show r = _
          rw [← HR.out, hb1, hb2, bne_iff_ne_decide, ← Bool.decide_and, ← Bool.decide_and]
          refine decide_eq_decide.mpr ⟨fun h => ?_, fun h => .inr ⟨h.1, h.2.1, h.2.2⟩⟩
          rcases h with h | h
          · exact absurd h hz
          · exact ⟨h.1, h.2.1, h.2.2⟩
        clear hz hb1 hb2 HR
        by_cases h3 : s = 0
        · subst h3
          by_cases h4 : m1 = 0 ∧ k1 = 0 ∧ d1 = 0 ∧ a1 = 0
          · have h5 : ¬ (m2 = 0 ∧ k2 = 0 ∧ d2 = 0 ∧ a2 = 0) := fun h5 => HZ.out ⟨rfl, h4, h5⟩
            rw [decide_eq_true h4] at E1
            rw [decide_eq_false h5] at E2
            clear h4 h5 HZ
            cases b1 <;> cases b2
            all_goals
              go_enter Tryd.func23, Tryd.ntmps23
              go_wp2_with (first
                | (go_at_call 38; have _t := W1; go_must (refine (W1 _).mono ?_); rintro e w1 ⟨rfl, rfl⟩; clear W1)
                | (go_at_call 38; have _t := W2; go_must (refine (W2 _).mono ?_); rintro e w1 ⟨rfl, rfl⟩; clear W2)
                | (go_at_call 39; have _t := R1; go_must (refine (R1 _).mono ?_); rintro e w1 ⟨rfl, hg1⟩; clear R1; have c2 := cell_kept2 hg1 2 _ rfl; have c6 := cell_kept2 hg1 6 _ rfl; have c7 := cell_kept2 hg1 7 _ rfl; have c8 := cell_kept2 hg1 8 _ rfl; have c9 := cell_kept2 hg1 9 _ rfl)
                | (go_at_call 39; have _t := R2; go_must (refine (R2 _).mono ?_); rintro e w2 ⟨rfl, hg2⟩; clear R2; have f2 := hg2.cell c2 (by simp); have f6 := hg2.cell c6 (by simp)))
              go_ret
              first
                | exact ⟨ret_bool (by rw [hr.out]; simp), grown_more (hga _ _) hg1 (by simp)⟩
                | exact ⟨ret_bool (by rw [hr.out]; simp), grown_more (grown_more (hga _ _) hg1 (by simp)) hg2 (by simp)⟩
          · rw [decide_eq_false h4] at E1
            clear h4 HZ
            cases b1 <;> cases b2
            all_goals
              go_enter Tryd.func23, Tryd.ntmps23
              go_wp2_with (first
                | (go_at_call 38; have _t := W1; go_must (refine (W1 _).mono ?_); rintro e w1 ⟨rfl, rfl⟩; clear W1)
                | (go_at_call 38; have _t := W2; go_must (refine (W2 _).mono ?_); rintro e w1 ⟨rfl, rfl⟩; clear W2)
                | (go_at_call 39; have _t := R1; go_must (refine (R1 _).mono ?_); rintro e w1 ⟨rfl, hg1⟩; clear R1; have c2 := cell_kept2 hg1 2 _ rfl; have c6 := cell_kept2 hg1 6 _ rfl; have c7 := cell_kept2 hg1 7 _ rfl; have c8 := cell_kept2 hg1 8 _ rfl; have c9 := cell_kept2 hg1 9 _ rfl)
                | (go_at_call 39; have _t := R2; go_must (refine (R2 _).mono ?_); rintro e w2 ⟨rfl, hg2⟩; clear R2; have f2 := hg2.cell c2 (by simp); have f6 := hg2.cell c6 (by simp)))
              go_ret
              first
                | exact ⟨ret_bool (by rw [hr.out]; simp), grown_more (hga _ _) hg1 (by simp)⟩
                | exact ⟨ret_bool (by rw [hr.out]; simp), grown_more (grown_more (hga _ _) hg1 (by simp)) hg2 (by simp)⟩
        · have g3 : (s == 0) = false := by simpa using h3
          clear HZ E1 E2
          cases b1 <;> cases b2
          all_goals
            go_enter Tryd.func23, Tryd.ntmps23
            go_wp2_with (first
              | (go_at_call 38; have _t := W1; go_must (refine (W1 _).mono ?_); rintro e w1 ⟨rfl, rfl⟩; clear W1)
              | (go_at_call 38; have _t := W2; go_must (refine (W2 _).mono ?_); rintro e w1 ⟨rfl, rfl⟩; clear W2)
              | (go_at_call 39; have _t := R1; go_must (refine (R1 _).mono ?_); rintro e w1 ⟨rfl, hg1⟩; clear R1; have c2 := cell_kept2 hg1 2 _ rfl; have c6 := cell_kept2 hg1 6 _ rfl; have c7 := cell_kept2 hg1 7 _ rfl; have c8 := cell_kept2 hg1 8 _ rfl; have c9 := cell_kept2 hg1 9 _ rfl)
              | (go_at_call 39; have _t := R2; go_must (refine (R2 _).mono ?_); rintro e w2 ⟨rfl, hg2⟩; clear R2; have f2 := hg2.cell c2 (by simp); have f6 := hg2.cell c6 (by simp)))
            go_ret
            first
              | exact ⟨ret_bool (by rw [hr.out]; simp), grown_more (hga _ _) hg1 (by simp)⟩
              | exact ⟨ret_bool (by rw [hr.out]; simp), grown_more (grown_more (hga _ _) hg1 (by simp)) hg2 (by simp)⟩

theorem right_any (z : Zon.Z) (w : World) :
    Calls Tryd.prog 23 #[zon z] w fun e w' => e = .returned (.bool (decide z.ok)) ∧ w.grownBy w' none :=
  right0 z.b z.s z.on.m z.on.k z.on.d z.on.a z.off.m z.off.k z.off.d z.off.a w

/-- The turns of z, told by the slice s. -/
def Turns (w : World) (s : Value) (z : Zon.Z) (b : Nat) : Prop :=
  (z.s = 0 ∧ s = .slice none 0 0) ∨ (z.s ≠ 0 ∧ ∃ q, q ≠ b ∧ s = .slice (some ⟨q, 0, none⟩) 860 860 ∧ ∀ i, i < 860 → w.cell? ⟨q, i, none⟩ = some (.int .i64 (Zon.T z i)))
/-- The rules of the zone z lie in the block b. -/
structure Zr (w : World) (b : Nat) (z : Zon.Z) : Prop where
  c0 : w.cell? ⟨b, 0, none⟩ = some (.int .i64 z.b)
  c1 : w.cell? ⟨b, 1, none⟩ = some (.int .i64 z.s)
  c2 : w.cell? ⟨b, 2, none⟩ = some (.int .i64 z.on.m)
  c3 : w.cell? ⟨b, 3, none⟩ = some (.int .i64 z.on.k)
  c4 : w.cell? ⟨b, 4, none⟩ = some (.int .i64 z.on.d)
  c5 : w.cell? ⟨b, 5, none⟩ = some (.int .i64 z.on.a)
  c6 : w.cell? ⟨b, 6, none⟩ = some (.int .i64 z.off.m)
  c7 : w.cell? ⟨b, 7, none⟩ = some (.int .i64 z.off.k)
  c8 : w.cell? ⟨b, 8, none⟩ = some (.int .i64 z.off.d)
  c9 : w.cell? ⟨b, 9, none⟩ = some (.int .i64 z.off.a)
  free : ∀ i, w.frozen? ⟨b, i, none⟩ = false
/-- The zone z lies in the block b. -/
structure Zn (w : World) (b : Nat) (z : Zon.Z) : Prop extends Zr w b z where
  state : (w.cell? ⟨b, 10, none⟩ = some (.int .u32 0) ∧ w.cell? ⟨b, 11, none⟩ = some (.int .i32 0) ∧ w.cell? ⟨b, 13, none⟩ = some (.slice none 0 0)) ∨
    (w.cell? ⟨b, 10, none⟩ = some (.int .u32 1) ∧ ∃ s, w.cell? ⟨b, 13, none⟩ = some s ∧ Turns w s z b)

set_option maxRecDepth 100000 in
set_option maxHeartbeats 400000 in
theorem make_bad (z : Zon.Z) (h : ¬ z.ok) (w : World) :
    Calls Tryd.prog 9 #[zon z] w fun e w' => e = .returned (.tuple #[.pointer none, .int .i64 40]) ∧ w.grownBy w' none := by
  have hnot : ∀ (x : Bool) (w : World), (Op.unary .not (.bool x)).run Tryd.prog w = .ok (.bool (!x)) w := fun _ _ => rfl
  have R := right_any z
  rw [decide_eq_false h] at R
  clear h
  unfold zon at R ⊢
  generalize z.b = b, z.s = s, z.on.m = m1, z.on.k = k1, z.on.d = d1, z.on.a = a1, z.off.m = m2, z.off.k = k2, z.off.d = d2, z.off.a = a2 at R ⊢
  go_enter Tryd.func9, Tryd.ntmps9
  go_wp2_with (go_at_call 23; go_must (refine (R _).mono ?_); rintro e w1 ⟨rfl, hg1⟩)
  go_ret2
  exact ⟨rfl, grown_more (World.grownBy_alloc w _ none) hg1 (by simp)⟩

set_option maxRecDepth 100000 in
set_option maxHeartbeats 400000 in
theorem make_ok (z : Zon.Z) (h : z.ok) (w : World) :
    Calls Tryd.prog 9 #[zon z] w fun e w' => ∃ b, e = .returned (.tuple #[.pointer (some ⟨b, 0, none⟩), .int .i64 0]) ∧ w.grownBy w' none ∧ w.heap.size ≤ b ∧ b < w'.heap.size ∧ Zn w' b z := by
  have hnot : ∀ (x : Bool) (w : World), (Op.unary .not (.bool x)).run Tryd.prog w = .ok (.bool (!x)) w := fun _ _ => rfl
  have R := right_any z
  rw [decide_eq_true h] at R
  clear h
  obtain ⟨b, s, ⟨m1, k1, d1, a1⟩, ⟨m2, k2, d2, a2⟩⟩ := z
  simp only [zon] at R ⊢
  go_enter Tryd.func9, Tryd.ntmps9
  go_wp2_with (go_at_call 23; go_must (refine (R _).mono ?_); rintro e w1 ⟨rfl, hg1⟩; have c0 := cell_kept hg1 0 _ rfl; have c1 := cell_kept hg1 1 _ rfl; have c2 := cell_kept hg1 2 _ rfl; have c3 := cell_kept hg1 3 _ rfl; have c4 := cell_kept hg1 4 _ rfl; have c5 := cell_kept hg1 5 _ rfl; have c6 := cell_kept hg1 6 _ rfl; have c7 := cell_kept hg1 7 _ rfl; have c8 := cell_kept hg1 8 _ rfl; have c9 := cell_kept hg1 9 _ rfl)
  have hs := size_kept hg1
  have hg := grown_more (World.grownBy_alloc w _ none) hg1 (by simp)
  go_ret2
  refine ⟨w1.heap.size, rfl, grown_alloc hg _, by omega, by simp, ?_⟩
  refine ⟨?_, ?_⟩
  · constructor <;> try (rw [World.cell?_alloc_new]; rfl)
    intro i; simp
  · exact .inl ⟨by rw [World.cell?_alloc_new]; rfl, by rw [World.cell?_alloc_new]; rfl, by rw [World.cell?_alloc_new]; rfl⟩
end Go.Proofs.YteiiapnpdfgoaaaDoor
