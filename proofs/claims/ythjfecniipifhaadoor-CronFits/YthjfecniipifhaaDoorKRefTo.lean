/- What the document's own 'To' answers (as in stage 4's seat). -/
import Derived.Test.YthjfecniipifhaaDoorKCheck
namespace Go.Proofs.YthjfecniipifhaaDoor
open Go.RowKit
set_option linter.unusedVariables false


set_option maxRecDepth 100000 in
theorem rLeap_any (y : Int) (h1 : 0 ≤ y) (h2 : y ≤ 3000) (w : World) :
    Calls Tryd.prog 62 #[.int .i64 y] w fun e w' => e = .returned (.bool (decide (Civ.lp y = 1))) ∧ w' = w := by
  go_enter Tryd.func62, Tryd.ntmps62
  go_wp2
  all_goals
    go_ret
    refine ⟨ret_bool ?_, rfl⟩
    unfold Civ.lp
    split <;> simp_all

set_option maxRecDepth 100000 in
theorem rYear_any (y : Int) (h1 : 0 ≤ y) (h2 : y ≤ 3000) (w : World) :
    Calls Tryd.prog 50 #[.int .i64 y] w fun e w' => e = .returned (.int .i64 (365 + Civ.lp y)) ∧ w' = w := by
  have HL := rLeap_any y h1 h2
  obtain ⟨l, hl⟩ : ∃ l, l = Civ.lp y := ⟨_, rfl⟩
  rw [← hl] at HL ⊢
  rcases (show l = 0 ∨ l = 1 by rw [hl]; exact Civ.lp_two y) with rfl | rfl
  · rw [decide_eq_false (by decide)] at HL
    go_enter Tryd.func50, Tryd.ntmps50
    go_wp2_with (go_at_call 62; go_must (refine (HL _).mono ?_); rintro e w1 ⟨rfl, rfl⟩)
    go_ret
    exact ⟨rfl, rfl⟩
  · rw [decide_eq_true rfl] at HL
    go_enter Tryd.func50, Tryd.ntmps50
    go_wp2_with (go_at_call 62; go_must (refine (HL _).mono ?_); rintro e w1 ⟨rfl, rfl⟩)
    go_ret
    exact ⟨rfl, rfl⟩

set_option maxRecDepth 100000 in
set_option maxHeartbeats 800000 in
theorem rDays_any (y m : Int) (w : World) :
    Calls Tryd.prog 49 #[.int .i64 y, .int .i64 m] w fun e w' => e = .returned (.int .i64 (Civ.dys y m)) ∧ w.grownBy w' none := by
  have hdone : ∀ o, w.grownBy (w.alloc o) none := fun o => World.grownBy_alloc w o none
  have h0 := grown_refl w none
  by_cases hy : 1970 ≤ y ∧ y ≤ 2399 ∧ 1 ≤ m ∧ m ≤ 12
  · obtain ⟨hy1, hy2, hm1, hm2⟩ := hy
    rw [Civ.dys_in hy1 hy2 hm1 hm2]
    by_cases h2 : m = 2
    · subst h2
      have HL := rLeap_any y (by omega) (by omega)
      have hd : Civ.dim y 2 = 28 + Civ.lp y := rfl
      rw [hd]
      obtain ⟨l, hl⟩ : ∃ l, l = Civ.lp y := ⟨_, rfl⟩
      rw [← hl] at HL ⊢
      rcases (show l = 0 ∨ l = 1 by rw [hl]; exact Civ.lp_two y) with rfl | rfl
      · rw [decide_eq_false (by decide)] at HL
        go_enter Tryd.func49, Tryd.ntmps49
        go_wp2_with (go_at_call 62; go_must (refine (HL _).mono ?_); rintro e w1 ⟨rfl, rfl⟩)
        go_ret
        exact ⟨rfl, hdone _⟩
      · rw [decide_eq_true rfl] at HL
        go_enter Tryd.func49, Tryd.ntmps49
        go_wp2_with (go_at_call 62; go_must (refine (HL _).mono ?_); rintro e w1 ⟨rfl, rfl⟩)
        go_ret
        exact ⟨rfl, hdone _⟩
    · have h : m = 1 ∨ m = 3 ∨ m = 4 ∨ m = 5 ∨ m = 6 ∨ m = 7 ∨ m = 8 ∨ m = 9 ∨ m = 10 ∨ m = 11 ∨ m = 12 := by omega
      clear h2
      rcases h with rfl | rfl | rfl | rfl | rfl | rfl | rfl | rfl | rfl | rfl | rfl
      all_goals
        go_enter Tryd.func49, Tryd.ntmps49
        go_wp2
        go_ret
        exact ⟨rfl, hdone _⟩
  · have e : Civ.dys y m = 0 := by unfold Civ.dys; rw [if_neg hy]
    rw [e]
    have H : Hid (¬ (1970 ≤ y ∧ y ≤ 2399 ∧ 1 ≤ m ∧ m ≤ 12)) := hy
    clear hy
    go_enter Tryd.func49, Tryd.ntmps49
    go_wp2_with (go_at_call 62; exfalso; have := H.out; omega)
    all_goals first
      | (go_ret; exact ⟨rfl, h0⟩)
      | (exfalso; have := H.out; go_light; simp at *; omega)
/-- A minute by the calendar that lies in the block b, free to be written. -/
structure CivAt (w : World) (b : Nat) (y m d h n k : Int) : Prop where
  c0 : w.cell? ⟨b, 0, none⟩ = some (.int .i64 y)
  c1 : w.cell? ⟨b, 1, none⟩ = some (.int .i64 m)
  c2 : w.cell? ⟨b, 2, none⟩ = some (.int .i64 d)
  c3 : w.cell? ⟨b, 3, none⟩ = some (.int .i64 h)
  c4 : w.cell? ⟨b, 4, none⟩ = some (.int .i64 n)
  c5 : w.cell? ⟨b, 5, none⟩ = some (.int .i64 k)
  free : ∀ i, w.frozen? ⟨b, i, none⟩ = false
  lt : b < w.heap.size
theorem CivAt.new (w : World) (y m d h n k : Int) (t : TypeId) : CivAt (w.alloc (.cells #[.int .i64 y, .int .i64 m, .int .i64 d, .int .i64 h, .int .i64 n, .int .i64 k] t)) w.heap.size y m d h n k :=
  ⟨by simp, by simp, by simp, by simp, by simp, by simp, fun i => by simp, by simp⟩
theorem CivAt.kept {w w' : World} {b : Nat} {y m d h n k : Int} (c : CivAt w b y m d h n k) (g : w.grownBy w' none) : CivAt w' b y m d h n k :=
  ⟨g.cell c.c0 (by simp), g.cell c.c1 (by simp), g.cell c.c2 (by simp), g.cell c.c3 (by simp), g.cell c.c4 (by simp), g.cell c.c5 (by simp),
    fun i => by rw [World.frozen?_of_block (w := w) (g.block b c.lt (by simp))]; exact c.free i, Nat.lt_of_lt_of_le c.lt g.size⟩
theorem CivAt.other {w : World} {b b' i : Nat} {y m d h n k : Int} {v : Value} (c : CivAt w b y m d h n k) (hb : b ≠ b') : CivAt (w.setCell ⟨b', i, none⟩ v) b y m d h n k := by
  have e : ∀ j, (⟨b', i, none⟩ : Addr) ≠ ⟨b, j, none⟩ := fun j he => hb (by injection he with h1 _ _; exact h1.symm)
  refine ⟨?_, ?_, ?_, ?_, ?_, ?_, fun j => by rw [World.frozen?_setCell]; exact c.free j, by simp only [World.setCell, Array.size_modify]; exact c.lt⟩
  all_goals rw [World.cell?_setCell_other _ _ _ _ (e _)]
  · exact c.c0
  · exact c.c1
  · exact c.c2
  · exact c.c3
  · exact c.c4
  · exact c.c5
theorem CivAt.set0 {w : World} {b : Nat} {y m d h n k : Int} (c : CivAt w b y m d h n k) (y' : Int) : CivAt (w.setCell ⟨b, 0, none⟩ (.int .i64 y')) b y' m d h n k := by
  have e : ∀ j, j ≠ 0 → (⟨b, 0, none⟩ : Addr) ≠ ⟨b, j, none⟩ := fun j hj he => hj (by injection he with _ h1 _; exact h1.symm)
  refine ⟨World.cell?_setCell_same _ _ _ c.c0, ?_, ?_, ?_, ?_, ?_, fun j => by rw [World.frozen?_setCell]; exact c.free j, by simp only [World.setCell, Array.size_modify]; exact c.lt⟩
  all_goals rw [World.cell?_setCell_other _ _ _ _ (e _ (by decide))]
  · exact c.c1
  · exact c.c2
  · exact c.c3
  · exact c.c4
  · exact c.c5
theorem CivAt.set1 {w : World} {b : Nat} {y m d h n k : Int} (c : CivAt w b y m d h n k) (m' : Int) : CivAt (w.setCell ⟨b, 1, none⟩ (.int .i64 m')) b y m' d h n k := by
  have e : ∀ j, j ≠ 1 → (⟨b, 1, none⟩ : Addr) ≠ ⟨b, j, none⟩ := fun j hj he => hj (by injection he with _ h1 _; exact h1.symm)
  refine ⟨?_, World.cell?_setCell_same _ _ _ c.c1, ?_, ?_, ?_, ?_, fun j => by rw [World.frozen?_setCell]; exact c.free j, by simp only [World.setCell, Array.size_modify]; exact c.lt⟩
  all_goals rw [World.cell?_setCell_other _ _ _ _ (e _ (by decide))]
  · exact c.c0
  · exact c.c2
  · exact c.c3
  · exact c.c4
  · exact c.c5

/-- A world, grown out of w, in which a minute by the calendar lies in the block b. -/
structure GW (w : World) (b : Nat) (y m d h n k : Int) where
  now : World
  good : CivAt now b y m d h n k
  grown : w.grownBy now none
theorem GW.call {P : Program} {w : World} {b : Nat} {y m d h n k : Int} {x : GW w b y m d h n k} {f : FuncId} {args : Array Value} {v : Value}
    (c : Calls P f args x.now fun e w' => e = .returned v ∧ x.now.grownBy w' none) : Calls P f args x.now fun e w' => e = .returned v ∧ ∃ x' : GW w b y m d h n k, w' = x'.now :=
  c.mono fun _ w' ⟨he, hg⟩ => ⟨he, ⟨w', x.good.kept hg, grown_more x.grown hg (by simp)⟩, rfl⟩

set_option maxRecDepth 100000 in
set_option maxHeartbeats 800000 in
theorem rTo_bad0 (y m d h n k D : Int) (HY : ∀ w, Calls Tryd.prog 49 #[.int .i64 y, .int .i64 m] w fun e w' => e = .returned (.int .i64 D) ∧ w.grownBy w' none) (q0 : d < 1) (w : World) :
    Calls Tryd.prog 33 #[civ y m d h n k] w fun e w' => e = .returned (.tuple #[.int .i64 0, .int .i64 30]) ∧ w.grownBy w' none := by
  have g0 : decide (d < 1) = true := decide_eq_true q0
  have hne : Nonempty (GW w w.heap.size y m d h n k) := ⟨(w.alloc (.cells #[.int .i64 y, .int .i64 m, .int .i64 d, .int .i64 h, .int .i64 n, .int .i64 k] 36)).drewN 1, (CivAt.new w y m d h n k _).kept (grown_drewN (grown_refl _ _) 1), grown_drewN (World.grownBy_alloc w _ none) 1⟩
  have x0 : ∀ x : GW w w.heap.size y m d h n k, x.now.cell? ⟨w.heap.size, 0, none⟩ = some (.int .i64 y) := fun x => x.good.c0
  have x1 : ∀ x : GW w w.heap.size y m d h n k, x.now.cell? ⟨w.heap.size, 1, none⟩ = some (.int .i64 m) := fun x => x.good.c1
  have x2 : ∀ x : GW w w.heap.size y m d h n k, x.now.cell? ⟨w.heap.size, 2, none⟩ = some (.int .i64 d) := fun x => x.good.c2
  have x3 : ∀ x : GW w w.heap.size y m d h n k, x.now.cell? ⟨w.heap.size, 3, none⟩ = some (.int .i64 h) := fun x => x.good.c3
  have x4 : ∀ x : GW w w.heap.size y m d h n k, x.now.cell? ⟨w.heap.size, 4, none⟩ = some (.int .i64 n) := fun x => x.good.c4
  go_enter Tryd.func33, Tryd.ntmps33
  go_wp2
  refine wp_region_quiet_at (C := fun w' => ∃ x : GW w w.heap.size y m d h n k, w' = x.now) (by kernel_rfl) (by kernel_rfl) ⟨⟨_, (CivAt.new w y m d h n k _).kept (grown_drewN (grown_refl _ _) 1), grown_drewN (World.grownBy_alloc w _ none) 1⟩, rfl⟩ ?_
  repeat (go_big_quiet_step ((go_at_call 49; refine GW.call (HY _))))
  refine wpQuiet_nil ?_
  rintro _ ⟨x, rfl⟩
  go_wp2
  go_ret2
  exact ⟨rfl, x.grown⟩

set_option maxRecDepth 100000 in
set_option maxHeartbeats 800000 in
theorem rTo_bad1 (y m d h n k D : Int) (HY : ∀ w, Calls Tryd.prog 49 #[.int .i64 y, .int .i64 m] w fun e w' => e = .returned (.int .i64 D) ∧ w.grownBy w' none) (q0 : ¬ d < 1) (q1 : D < d) (w : World) :
    Calls Tryd.prog 33 #[civ y m d h n k] w fun e w' => e = .returned (.tuple #[.int .i64 0, .int .i64 30]) ∧ w.grownBy w' none := by
  have g0 : decide (d < 1) = false := decide_eq_false q0
  have g1 : decide (D < d) = true := decide_eq_true q1
  have hne : Nonempty (GW w w.heap.size y m d h n k) := ⟨(w.alloc (.cells #[.int .i64 y, .int .i64 m, .int .i64 d, .int .i64 h, .int .i64 n, .int .i64 k] 36)).drewN 1, (CivAt.new w y m d h n k _).kept (grown_drewN (grown_refl _ _) 1), grown_drewN (World.grownBy_alloc w _ none) 1⟩
  have x0 : ∀ x : GW w w.heap.size y m d h n k, x.now.cell? ⟨w.heap.size, 0, none⟩ = some (.int .i64 y) := fun x => x.good.c0
  have x1 : ∀ x : GW w w.heap.size y m d h n k, x.now.cell? ⟨w.heap.size, 1, none⟩ = some (.int .i64 m) := fun x => x.good.c1
  have x2 : ∀ x : GW w w.heap.size y m d h n k, x.now.cell? ⟨w.heap.size, 2, none⟩ = some (.int .i64 d) := fun x => x.good.c2
  have x3 : ∀ x : GW w w.heap.size y m d h n k, x.now.cell? ⟨w.heap.size, 3, none⟩ = some (.int .i64 h) := fun x => x.good.c3
  have x4 : ∀ x : GW w w.heap.size y m d h n k, x.now.cell? ⟨w.heap.size, 4, none⟩ = some (.int .i64 n) := fun x => x.good.c4
  go_enter Tryd.func33, Tryd.ntmps33
  go_wp2
  refine wp_region_quiet_at (C := fun w' => ∃ x : GW w w.heap.size y m d h n k, w' = x.now) (by kernel_rfl) (by kernel_rfl) ⟨⟨_, (CivAt.new w y m d h n k _).kept (grown_drewN (grown_refl _ _) 1), grown_drewN (World.grownBy_alloc w _ none) 1⟩, rfl⟩ ?_
  repeat (go_big_quiet_step ((go_at_call 49; refine GW.call (HY _))))
  refine wpQuiet_nil ?_
  rintro _ ⟨x, rfl⟩
  go_wp2
  go_ret2
  exact ⟨rfl, x.grown⟩

set_option maxRecDepth 100000 in
set_option maxHeartbeats 800000 in
theorem rTo_bad2 (y m d h n k D : Int) (HY : ∀ w, Calls Tryd.prog 49 #[.int .i64 y, .int .i64 m] w fun e w' => e = .returned (.int .i64 D) ∧ w.grownBy w' none) (q0 : ¬ d < 1) (q1 : ¬ D < d) (q2 : h < 0) (w : World) :
    Calls Tryd.prog 33 #[civ y m d h n k] w fun e w' => e = .returned (.tuple #[.int .i64 0, .int .i64 30]) ∧ w.grownBy w' none := by
  have g0 : decide (d < 1) = false := decide_eq_false q0
  have g1 : decide (D < d) = false := decide_eq_false q1
  have g2 : decide (h < 0) = true := decide_eq_true q2
  have hne : Nonempty (GW w w.heap.size y m d h n k) := ⟨(w.alloc (.cells #[.int .i64 y, .int .i64 m, .int .i64 d, .int .i64 h, .int .i64 n, .int .i64 k] 36)).drewN 1, (CivAt.new w y m d h n k _).kept (grown_drewN (grown_refl _ _) 1), grown_drewN (World.grownBy_alloc w _ none) 1⟩
  have x0 : ∀ x : GW w w.heap.size y m d h n k, x.now.cell? ⟨w.heap.size, 0, none⟩ = some (.int .i64 y) := fun x => x.good.c0
  have x1 : ∀ x : GW w w.heap.size y m d h n k, x.now.cell? ⟨w.heap.size, 1, none⟩ = some (.int .i64 m) := fun x => x.good.c1
  have x2 : ∀ x : GW w w.heap.size y m d h n k, x.now.cell? ⟨w.heap.size, 2, none⟩ = some (.int .i64 d) := fun x => x.good.c2
  have x3 : ∀ x : GW w w.heap.size y m d h n k, x.now.cell? ⟨w.heap.size, 3, none⟩ = some (.int .i64 h) := fun x => x.good.c3
  have x4 : ∀ x : GW w w.heap.size y m d h n k, x.now.cell? ⟨w.heap.size, 4, none⟩ = some (.int .i64 n) := fun x => x.good.c4
  go_enter Tryd.func33, Tryd.ntmps33
  go_wp2
  refine wp_region_quiet_at (C := fun w' => ∃ x : GW w w.heap.size y m d h n k, w' = x.now) (by kernel_rfl) (by kernel_rfl) ⟨⟨_, (CivAt.new w y m d h n k _).kept (grown_drewN (grown_refl _ _) 1), grown_drewN (World.grownBy_alloc w _ none) 1⟩, rfl⟩ ?_
  repeat (go_big_quiet_step ((go_at_call 49; refine GW.call (HY _))))
  refine wpQuiet_nil ?_
  rintro _ ⟨x, rfl⟩
  go_wp2
  go_ret2
  exact ⟨rfl, x.grown⟩

set_option maxRecDepth 100000 in
set_option maxHeartbeats 800000 in
theorem rTo_bad3 (y m d h n k D : Int) (HY : ∀ w, Calls Tryd.prog 49 #[.int .i64 y, .int .i64 m] w fun e w' => e = .returned (.int .i64 D) ∧ w.grownBy w' none) (q0 : ¬ d < 1) (q1 : ¬ D < d) (q2 : ¬ h < 0) (q3 : 23 < h) (w : World) :
    Calls Tryd.prog 33 #[civ y m d h n k] w fun e w' => e = .returned (.tuple #[.int .i64 0, .int .i64 30]) ∧ w.grownBy w' none := by
  have g0 : decide (d < 1) = false := decide_eq_false q0
  have g1 : decide (D < d) = false := decide_eq_false q1
  have g2 : decide (h < 0) = false := decide_eq_false q2
  have g3 : decide (23 < h) = true := decide_eq_true q3
  have hne : Nonempty (GW w w.heap.size y m d h n k) := ⟨(w.alloc (.cells #[.int .i64 y, .int .i64 m, .int .i64 d, .int .i64 h, .int .i64 n, .int .i64 k] 36)).drewN 1, (CivAt.new w y m d h n k _).kept (grown_drewN (grown_refl _ _) 1), grown_drewN (World.grownBy_alloc w _ none) 1⟩
  have x0 : ∀ x : GW w w.heap.size y m d h n k, x.now.cell? ⟨w.heap.size, 0, none⟩ = some (.int .i64 y) := fun x => x.good.c0
  have x1 : ∀ x : GW w w.heap.size y m d h n k, x.now.cell? ⟨w.heap.size, 1, none⟩ = some (.int .i64 m) := fun x => x.good.c1
  have x2 : ∀ x : GW w w.heap.size y m d h n k, x.now.cell? ⟨w.heap.size, 2, none⟩ = some (.int .i64 d) := fun x => x.good.c2
  have x3 : ∀ x : GW w w.heap.size y m d h n k, x.now.cell? ⟨w.heap.size, 3, none⟩ = some (.int .i64 h) := fun x => x.good.c3
  have x4 : ∀ x : GW w w.heap.size y m d h n k, x.now.cell? ⟨w.heap.size, 4, none⟩ = some (.int .i64 n) := fun x => x.good.c4
  go_enter Tryd.func33, Tryd.ntmps33
  go_wp2
  refine wp_region_quiet_at (C := fun w' => ∃ x : GW w w.heap.size y m d h n k, w' = x.now) (by kernel_rfl) (by kernel_rfl) ⟨⟨_, (CivAt.new w y m d h n k _).kept (grown_drewN (grown_refl _ _) 1), grown_drewN (World.grownBy_alloc w _ none) 1⟩, rfl⟩ ?_
  repeat (go_big_quiet_step ((go_at_call 49; refine GW.call (HY _))))
  refine wpQuiet_nil ?_
  rintro _ ⟨x, rfl⟩
  go_wp2
  go_ret2
  exact ⟨rfl, x.grown⟩

set_option maxRecDepth 100000 in
set_option maxHeartbeats 800000 in
theorem rTo_bad4 (y m d h n k D : Int) (HY : ∀ w, Calls Tryd.prog 49 #[.int .i64 y, .int .i64 m] w fun e w' => e = .returned (.int .i64 D) ∧ w.grownBy w' none) (q0 : ¬ d < 1) (q1 : ¬ D < d) (q2 : ¬ h < 0) (q3 : ¬ 23 < h) (q4 : n < 0) (w : World) :
    Calls Tryd.prog 33 #[civ y m d h n k] w fun e w' => e = .returned (.tuple #[.int .i64 0, .int .i64 30]) ∧ w.grownBy w' none := by
  have g0 : decide (d < 1) = false := decide_eq_false q0
  have g1 : decide (D < d) = false := decide_eq_false q1
  have g2 : decide (h < 0) = false := decide_eq_false q2
  have g3 : decide (23 < h) = false := decide_eq_false q3
  have g4 : decide (n < 0) = true := decide_eq_true q4
  have hne : Nonempty (GW w w.heap.size y m d h n k) := ⟨(w.alloc (.cells #[.int .i64 y, .int .i64 m, .int .i64 d, .int .i64 h, .int .i64 n, .int .i64 k] 36)).drewN 1, (CivAt.new w y m d h n k _).kept (grown_drewN (grown_refl _ _) 1), grown_drewN (World.grownBy_alloc w _ none) 1⟩
  have x0 : ∀ x : GW w w.heap.size y m d h n k, x.now.cell? ⟨w.heap.size, 0, none⟩ = some (.int .i64 y) := fun x => x.good.c0
  have x1 : ∀ x : GW w w.heap.size y m d h n k, x.now.cell? ⟨w.heap.size, 1, none⟩ = some (.int .i64 m) := fun x => x.good.c1
  have x2 : ∀ x : GW w w.heap.size y m d h n k, x.now.cell? ⟨w.heap.size, 2, none⟩ = some (.int .i64 d) := fun x => x.good.c2
  have x3 : ∀ x : GW w w.heap.size y m d h n k, x.now.cell? ⟨w.heap.size, 3, none⟩ = some (.int .i64 h) := fun x => x.good.c3
  have x4 : ∀ x : GW w w.heap.size y m d h n k, x.now.cell? ⟨w.heap.size, 4, none⟩ = some (.int .i64 n) := fun x => x.good.c4
  go_enter Tryd.func33, Tryd.ntmps33
  go_wp2
  refine wp_region_quiet_at (C := fun w' => ∃ x : GW w w.heap.size y m d h n k, w' = x.now) (by kernel_rfl) (by kernel_rfl) ⟨⟨_, (CivAt.new w y m d h n k _).kept (grown_drewN (grown_refl _ _) 1), grown_drewN (World.grownBy_alloc w _ none) 1⟩, rfl⟩ ?_
  repeat (go_big_quiet_step ((go_at_call 49; refine GW.call (HY _))))
  refine wpQuiet_nil ?_
  rintro _ ⟨x, rfl⟩
  go_wp2
  go_ret2
  exact ⟨rfl, x.grown⟩

set_option maxRecDepth 100000 in
set_option maxHeartbeats 800000 in
theorem rTo_bad5 (y m d h n k D : Int) (HY : ∀ w, Calls Tryd.prog 49 #[.int .i64 y, .int .i64 m] w fun e w' => e = .returned (.int .i64 D) ∧ w.grownBy w' none) (q0 : ¬ d < 1) (q1 : ¬ D < d) (q2 : ¬ h < 0) (q3 : ¬ 23 < h) (q4 : ¬ n < 0) (q5 : 59 < n) (w : World) :
    Calls Tryd.prog 33 #[civ y m d h n k] w fun e w' => e = .returned (.tuple #[.int .i64 0, .int .i64 30]) ∧ w.grownBy w' none := by
  have g0 : decide (d < 1) = false := decide_eq_false q0
  have g1 : decide (D < d) = false := decide_eq_false q1
  have g2 : decide (h < 0) = false := decide_eq_false q2
  have g3 : decide (23 < h) = false := decide_eq_false q3
  have g4 : decide (n < 0) = false := decide_eq_false q4
  have g5 : decide (59 < n) = true := decide_eq_true q5
  have hne : Nonempty (GW w w.heap.size y m d h n k) := ⟨(w.alloc (.cells #[.int .i64 y, .int .i64 m, .int .i64 d, .int .i64 h, .int .i64 n, .int .i64 k] 36)).drewN 1, (CivAt.new w y m d h n k _).kept (grown_drewN (grown_refl _ _) 1), grown_drewN (World.grownBy_alloc w _ none) 1⟩
  have x0 : ∀ x : GW w w.heap.size y m d h n k, x.now.cell? ⟨w.heap.size, 0, none⟩ = some (.int .i64 y) := fun x => x.good.c0
  have x1 : ∀ x : GW w w.heap.size y m d h n k, x.now.cell? ⟨w.heap.size, 1, none⟩ = some (.int .i64 m) := fun x => x.good.c1
  have x2 : ∀ x : GW w w.heap.size y m d h n k, x.now.cell? ⟨w.heap.size, 2, none⟩ = some (.int .i64 d) := fun x => x.good.c2
  have x3 : ∀ x : GW w w.heap.size y m d h n k, x.now.cell? ⟨w.heap.size, 3, none⟩ = some (.int .i64 h) := fun x => x.good.c3
  have x4 : ∀ x : GW w w.heap.size y m d h n k, x.now.cell? ⟨w.heap.size, 4, none⟩ = some (.int .i64 n) := fun x => x.good.c4
  go_enter Tryd.func33, Tryd.ntmps33
  go_wp2
  refine wp_region_quiet_at (C := fun w' => ∃ x : GW w w.heap.size y m d h n k, w' = x.now) (by kernel_rfl) (by kernel_rfl) ⟨⟨_, (CivAt.new w y m d h n k _).kept (grown_drewN (grown_refl _ _) 1), grown_drewN (World.grownBy_alloc w _ none) 1⟩, rfl⟩ ?_
  repeat (go_big_quiet_step ((go_at_call 49; refine GW.call (HY _))))
  refine wpQuiet_nil ?_
  rintro _ ⟨x, rfl⟩
  go_wp2
  go_ret2
  exact ⟨rfl, x.grown⟩

theorem rTo_bad (y m d h n k : Int) (hT : ¬ Thr y m d h n) (w : World) :
    Calls Tryd.prog 33 #[civ y m d h n k] w fun e w' => e = .returned (.tuple #[.int .i64 0, .int .i64 30]) ∧ w.grownBy w' none := by
  have HY := rDays_any y m
  unfold Thr at hT
  obtain ⟨D, hD⟩ : ∃ D, D = Civ.dys y m := ⟨_, rfl⟩
  rw [← hD] at HY hT
  by_cases q0 : d < 1
  · exact rTo_bad0 y m d h n k D HY q0 w
  by_cases q1 : D < d
  · exact rTo_bad1 y m d h n k D HY q0 q1 w
  by_cases q2 : h < 0
  · exact rTo_bad2 y m d h n k D HY q0 q1 q2 w
  by_cases q3 : 23 < h
  · exact rTo_bad3 y m d h n k D HY q0 q1 q2 q3 w
  by_cases q4 : n < 0
  · exact rTo_bad4 y m d h n k D HY q0 q1 q2 q3 q4 w
  exact rTo_bad5 y m d h n k D HY q0 q1 q2 q3 q4 (by omega) w

set_option maxRecDepth 100000 in
set_option maxHeartbeats 1600000 in
theorem rTo_ok (y m d h n k : Int) (hT : Thr y m d h n) (w : World) :
    Calls Tryd.prog 33 #[civ y m d h n k] w fun e w' => e = .returned (.tuple #[.int .i64 (inst y m d h n), .int .i64 0]) ∧ w.grownBy w' none := by
  obtain ⟨t1, t2, t3, t4, t5, t6⟩ := hT
  obtain ⟨hy1, hy2, hm1, hm2⟩ := Civ.of_dys (y := y) (m := m) (by omega)
  have HY := rDays_any y m
  rw [Civ.dys_in hy1 hy2 hm1 hm2] at t2 HY
  have hdm := Civ.dim_bd y m
  have hd : d ≤ 31 := by omega
  obtain ⟨D, hD⟩ : ∃ D, D = Civ.dim y m := ⟨_, rfl⟩
  rw [← hD] at HY t2
  have g0 : decide (d < 1) = false := decide_eq_false (by omega)
  have g1 : decide (D < d) = false := decide_eq_false (by omega)
  have g2 : decide (h < 0) = false := decide_eq_false (by omega)
  have g3 : decide (23 < h) = false := decide_eq_false (by omega)
  have g4 : decide (n < 0) = false := decide_eq_false (by omega)
  have g5 : decide (59 < n) = false := decide_eq_false (by omega)
  clear hD hdm t2
  have hne : Nonempty (GW w w.heap.size y m d h n k) := ⟨(w.alloc (.cells #[.int .i64 y, .int .i64 m, .int .i64 d, .int .i64 h, .int .i64 n, .int .i64 k] 36)).drewN 1, (CivAt.new w y m d h n k _).kept (grown_drewN (grown_refl _ _) 1), grown_drewN (World.grownBy_alloc w _ none) 1⟩
  have x0 : ∀ x : GW w w.heap.size y m d h n k, x.now.cell? ⟨w.heap.size, 0, none⟩ = some (.int .i64 y) := fun x => x.good.c0
  have x1 : ∀ x : GW w w.heap.size y m d h n k, x.now.cell? ⟨w.heap.size, 1, none⟩ = some (.int .i64 m) := fun x => x.good.c1
  have x2 : ∀ x : GW w w.heap.size y m d h n k, x.now.cell? ⟨w.heap.size, 2, none⟩ = some (.int .i64 d) := fun x => x.good.c2
  have x3 : ∀ x : GW w w.heap.size y m d h n k, x.now.cell? ⟨w.heap.size, 3, none⟩ = some (.int .i64 h) := fun x => x.good.c3
  have x4 : ∀ x : GW w w.heap.size y m d h n k, x.now.cell? ⟨w.heap.size, 4, none⟩ = some (.int .i64 n) := fun x => x.good.c4
  go_enter Tryd.func33, Tryd.ntmps33
  go_wp2
  refine wp_region_quiet_at (C := fun w' => ∃ x : GW w w.heap.size y m d h n k, w' = x.now) (by kernel_rfl) (by kernel_rfl) ⟨⟨_, (CivAt.new w y m d h n k _).kept (grown_drewN (grown_refl _ _) 1), grown_drewN (World.grownBy_alloc w _ none) 1⟩, rfl⟩ ?_
  repeat (go_big_quiet_step ((go_at_call 49; refine GW.call (HY _))))
  refine wpQuiet_nil ?_
  rintro _ ⟨x, rfl⟩
  obtain ⟨x, hx, hg⟩ := x
  have c0 := hx.c0
  have c1 := hx.c1
  have c2 := hx.c2
  have c3 := hx.c3
  have c4 := hx.c4
  clear x0 x1 x2 x3 x4 hne HY
  simp only
  go_wp2
  go_loop [4, 5] (fun s i => ∃ j : Int, 1970 ≤ j ∧ j ≤ y ∧ i = .int .i64 j ∧ s = .int .i64 (d - 1 + Civ.d2y j)) (fun _ i => (2400 - intOf i).toNat)
  case atStart => exact ⟨1970, by omega, hy1, rfl, val_int (by rw [Civ.d2y_first]; omega)⟩
  case round =>
    obtain ⟨j, hj1, hj2, rfl, rfl⟩ := hrel
    have HS : Hid (Civ.d2y (j + 1) = Civ.d2y j + 365 + Civ.lp j) := Civ.d2y_succ j
    have HJ := rYear_any j (by omega) (by omega)
    have hl : 0 ≤ Civ.lp j ∧ Civ.lp j ≤ 1 := by have := Civ.lp_two j; omega
    have hq : 0 ≤ Civ.d2y j ∧ Civ.d2y j ≤ 157054 := by
      have a := Civ.d2y_mono hj1
      have b := Civ.d2y_mono (show j ≤ 2400 by omega)
      rw [Civ.d2y_first] at a
      rw [Civ.d2y_last] at b
      omega
    obtain ⟨l, hl'⟩ : ∃ l, l = Civ.lp j := ⟨_, rfl⟩
    obtain ⟨q, hq'⟩ : ∃ q, q = Civ.d2y j := ⟨_, rfl⟩
    have HQ : Hid (q = Civ.d2y j) := hq'
    rw [← hl'] at HJ hl HS
    rw [← hq'] at hq HS ⊢
    clear hl' hq'
    by_cases hlt : j < y
    · go_wp2_with (go_at_call 50; go_must (refine (HJ _).mono ?_); rintro e w1 ⟨rfl, rfl⟩)
      go_round
      case rel => exact ⟨j + 1, by omega, by omega, by go_num, val_int (by rw [HS.out]; omega)⟩
      case measure => simp [intOf]; omega
    · obtain rfl : j = y := by omega
      clear HJ hl HS
      go_wp2
      go_loopw [4, 6] (fun s i wr => ∃ a : Int, 1 ≤ a ∧ a ≤ m ∧ i = .int .i64 a ∧ s = .int .i64 (d - 1 + q + Civ.cum j a) ∧ CivAt wr w.heap.size j m d h n k ∧ w.grownBy wr none) (fun _ i _ => (13 - intOf i).toNat)
      case atStart => exact ⟨1, by omega, hm1, rfl, val_int (by rw [Civ.cum_one]; omega), hx, hg⟩
      case round =>
        clear c0 c1 c2 c3 c4 hx hg
        obtain ⟨a, ha1, ha2, rfl, rfl, hx, hg⟩ := hrel
        have c0 := hx.c0
        have c1 := hx.c1
        have c3 := hx.c3
        have c4 := hx.c4
        have HY := rDays_any j a
        rw [Civ.dys_in hy1 hy2 ha1 (by omega)] at HY
        have hdm := Civ.dim_bd j a
        have HS : Hid (Civ.cum j (a + 1) = Civ.cum j a + Civ.dim j a) := Civ.cum_succ ha1 (by omega)
        have hc : 0 ≤ Civ.cum j a ∧ Civ.cum j a ≤ 366 := by
          have b1 := Civ.cum_mono (y := j) (m := 1) (n := a) (by omega) ha1 (by omega)
          have b2 := Civ.cum_mono (y := j) (m := a) (n := 13) ha1 (by omega) (by omega)
          rw [Civ.cum_one] at b1
          rw [Civ.cum_end] at b2
          have := Civ.lp_two j
          omega
        obtain ⟨E, hE⟩ : ∃ E, E = Civ.dim j a := ⟨_, rfl⟩
        obtain ⟨c, hc'⟩ : ∃ c, c = Civ.cum j a := ⟨_, rfl⟩
        have HC : Hid (c = Civ.cum j a) := hc'
        rw [← hE] at HY hdm HS
        rw [← hc'] at hc HS ⊢
        clear hE hc'
        by_cases hlt2 : a < m
        · go_wp2_with (go_at_call 49; go_must (refine (HY _).mono ?_); rintro e w2 ⟨rfl, hg2⟩)
          go_roundw
          case rel => exact ⟨a + 1, by omega, by omega, by go_num, val_int (by rw [HS.out]; omega), hx.kept hg2, grown_more hg hg2 (by simp)⟩
          case measure => simp [intOf]; omega
        · obtain rfl : a = m := by omega
          clear HY
          go_wp2
          go_ret2
          refine ⟨congrArg (fun x => Ending.returned (.tuple #[.int .i64 x, .int .i64 0])) ?_, hg⟩
          unfold inst
          rw [← HQ.out, ← HC.out]
          omega
end Go.Proofs.YthjfecniipifhaaDoor
