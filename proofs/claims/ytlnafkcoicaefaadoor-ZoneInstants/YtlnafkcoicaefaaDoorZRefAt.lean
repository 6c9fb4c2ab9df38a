/- What the document's own 'at', 'Right', 'Offset' and 'Instants' answer. -/
import Derived.Test.YtlnafkcoicaefaaDoorZRefNth
import Derived.Test.YtlnafkcoicaefaaDoorZBack
namespace Go.Proofs.YtlnafkcoicaefaaDoor
open Go.RowKit
set_option linter.unusedVariables false

theorem mom_inst2 {r : Zon.R} (h : r.ok) {y : Int} (y1 : 1970 ≤ y) (y2 : y ≤ 2399) : Thr y r.m (Civ.nthOf y r.m r.k r.d) (r.a / 60) (r.a % 60) ∧ inst y r.m (Civ.nthOf y r.m r.k r.d) (r.a / 60) (r.a % 60) = Zon.mom r y := by
  obtain ⟨⟨a1, a2, _⟩, hM, _⟩ := mom_inst h y1 y2
  have h7 := h.2.2.2.2.2.2.1
  have h8 := h.2.2.2.2.2.2.2
  refine ⟨⟨a1, a2, by omega, by omega, by omega, by omega⟩, ?_⟩
  rw [← hM]
  unfold inst
  omega

/-- A world, grown out of w, in which a rule lies in the block b. -/
structure GR (w : World) (b : Nat) (r : Zon.R) where
  now : World
  good : RuleAt now b r
  grown : w.grownBy now none
theorem GR.call {P : Program} {w : World} {b : Nat} {r : Zon.R} {x : GR w b r} {f : FuncId} {args : Array Value} {v : Value}
    (c : Calls P f args x.now fun e w' => e = .returned v ∧ x.now.grownBy w' none) : Calls P f args x.now fun e w' => e = .returned v ∧ ∃ x' : GR w b r, w' = x'.now :=
  c.mono fun _ w' ⟨he, hg⟩ => ⟨he, ⟨w', x.good.kept hg (by simp), grown_more x.grown hg (by simp)⟩, rfl⟩

set_option maxRecDepth 100000 in
set_option maxHeartbeats 1600000 in
theorem rAt_any (r : Zon.R) (h : r.ok) (y : Int) (y1 : 1970 ≤ y) (y2 : y ≤ 2399) (w : World) :
    Calls Tryd.prog 40 #[.int .i64 y, rul r] w fun e w' => e = .returned (.int .i64 (Zon.mom r y)) ∧ w.grownBy w' none := by
  obtain ⟨hT, hM⟩ := mom_inst2 h y1 y2
  have TO := rTo_ok y r.m (Civ.nthOf y r.m r.k r.d) (r.a / 60) (r.a % 60) 0 hT
  rw [hM] at TO
  have NT := rNth_any y r.m r.k r.d ⟨by have := h.2.2.1; omega, by have := h.2.2.2.1; omega⟩ ⟨by have := h.2.2.2.2.1; omega, by have := h.2.2.2.2.2.1; omega⟩
  have ha1 := h.2.2.2.2.2.2.1
  have ha2 := h.2.2.2.2.2.2.2
  have hq : r.a.tdiv 60 = r.a / 60 := Int.tdiv_eq_ediv_of_nonneg ha1
  have hr : r.a.tmod 60 = r.a % 60 := Int.tmod_eq_emod_of_nonneg ha1
  have hnew : RuleAt ((w.alloc (.cells #[.int .i64 r.m, .int .i64 r.k, .int .i64 r.d, .int .i64 r.a] 23)).drewN 1) w.heap.size r := by
    have k : RuleAt (w.alloc (.cells #[.int .i64 r.m, .int .i64 r.k, .int .i64 r.d, .int .i64 r.a] 23)) w.heap.size r := by
      constructor <;> (rw [World.cell?_alloc_new]; rfl)
    exact k.kept (grown_drewN (grown_refl _ none) 1) (by simp)
  obtain ⟨D, hD⟩ : ∃ D, D = Civ.nthOf y r.m r.k r.d := ⟨_, rfl⟩
  rw [← hD] at TO NT
  obtain ⟨I, hI⟩ : ∃ I, I = Zon.mom r y := ⟨_, rfl⟩
  rw [← hI] at TO ⊢
  clear hD hI hM hT h y1 y2
  have hne : Nonempty (GR w w.heap.size r) := ⟨_, hnew, grown_drewN (World.grownBy_alloc w _ none) 1⟩
  have x0 : ∀ x : GR w w.heap.size r, x.now.cell? ⟨w.heap.size, 0, none⟩ = some (.int .i64 r.m) := fun x => x.good.c0
  have x1 : ∀ x : GR w w.heap.size r, x.now.cell? ⟨w.heap.size, 1, none⟩ = some (.int .i64 r.k) := fun x => x.good.c1
  have x2 : ∀ x : GR w w.heap.size r, x.now.cell? ⟨w.heap.size, 2, none⟩ = some (.int .i64 r.d) := fun x => x.good.c2
  have x3 : ∀ x : GR w w.heap.size r, x.now.cell? ⟨w.heap.size, 3, none⟩ = some (.int .i64 r.a) := fun x => x.good.c3
  go_enter Tryd.func40, Tryd.ntmps40
  go_wp2
  refine wp_region_quiet_at (C := fun w' => ∃ x : GR w w.heap.size r, w' = x.now) (by kernel_rfl) (by kernel_rfl) ⟨⟨_, hnew, grown_drewN (World.grownBy_alloc w _ none) 1⟩, rfl⟩ ?_
  repeat (go_big_quiet_step (first | (go_at_call 46; refine GR.call (NT _)) | (go_at_call 24; refine GR.call (TO _))))
  refine wpQuiet_nil ?_
  rintro _ ⟨x, rfl⟩
  go_wp2
  go_ret
  exact ⟨rfl, x.grown⟩

set_option maxRecDepth 100000 in
theorem rOffset_bad (z : Zon.Z) (t : Int) (h : t < 0 ∨ 226157759 < t) (w : World) :
    Calls Tryd.prog 25 #[zon z, .int .i64 t] w fun e w' => e = .returned (.tuple #[.int .i64 0, .int .i64 30]) ∧ w.grownBy w' none := by
  have F := rFrom_bad t h
  clear h
  go_enter Tryd.func25, Tryd.ntmps25
  go_wp2_with (go_at_call 39; go_must (refine (F _).mono ?_); rintro e w1 ⟨rfl, hg1⟩)
  go_ret2
  exact ⟨rfl, grown_alloc (grown_more (World.grownBy_alloc w _ none) hg1 (by simp)) _⟩
set_option maxRecDepth 100000 in
theorem rOffset_zero (z : Zon.Z) (hs : z.s = 0) (t : Int) (t1 : 0 ≤ t) (t2 : t ≤ 226157759) (w : World) :
    Calls Tryd.prog 25 #[zon z, .int .i64 t] w fun e w' => e = .returned (.tuple #[.int .i64 z.b, .int .i64 0]) ∧ w.grownBy w' none := by
  have F := rFrom_ok t t1 t2
  go_enter Tryd.func25, Tryd.ntmps25
  go_wp2_with (go_at_call 39; go_must (refine (F _).mono ?_); rintro e w1 ⟨y, m, d, hA, rfl, hg1⟩; have c0 := cell_alloc (cell_kept hg1 0 _ rfl); have c1 := cell_alloc (cell_kept hg1 1 _ rfl))
  go_ret2
  exact ⟨rfl, grown_alloc (grown_more (World.grownBy_alloc w _ none) hg1 (by simp)) _⟩

set_option maxRecDepth 100000 in
set_option maxHeartbeats 3200000 in
theorem rOffset_two (z : Zon.Z) (hz : z.ok) (h2 : z.two) (hs : z.s ≠ 0) (t : Int) (t1 : 0 ≤ t) (t2 : t ≤ 226157759) (w : World) :
    Calls Tryd.prog 25 #[zon z, .int .i64 t] w fun e w' => e = .returned (.tuple #[.int .i64 (z.at t), .int .i64 0]) ∧ w.grownBy w' none := by
  obtain ⟨y, m, d, hA⟩ := Civ.At.is (n := t / 1440) (by omega) (by omega)
  have F := rFrom_at hA
  have hy := hA.year
  have hy1 := hA.y1
  have hy2 := hA.y2
  have A1 := rAt_any z.on h2.1 y hy1 hy2
  have A2 := rAt_any z.off h2.2.1 y hy1 hy2
  obtain ⟨R, hR⟩ : ∃ R, R = z.at t := ⟨_, rfl⟩
  rw [← hR]
  have HR : Hid _ := hR.trans (Zon.at_year h2 hs hy1 hy2 (by omega) (by omega))
  obtain ⟨on, hon⟩ : ∃ on, on = Zon.mom z.on y := ⟨_, rfl⟩
  obtain ⟨off, hoff⟩ : ∃ off, off = Zon.mom z.off y := ⟨_, rfl⟩
  rw [← hon, ← hoff] at HR
  rw [← hon] at A1
  rw [← hoff] at A2
  have hb1 := hz.1
  have hb2 := hz.2.1
  have hs1 := hz.2.2.1
  have hs2 := hz.2.2.2.1
  have g0 : (z.s == 0) = false := by simpa using hs
  clear hon hoff hR hy hA hz h2 hs
  generalize t % 1440 / 60 = hh at F
  generalize t % 60 = nn at F
  generalize Civ.wk (t / 1440) = kk at F
  by_cases q1 : on < off
  · by_cases q2 : on ≤ t
    · by_cases q3 : t < off
      · have r1 := decide_eq_true q1
        go_enter Tryd.func25, Tryd.ntmps25
        go_wp2_with (first
          | (go_at_call 39; go_must (refine (F _).mono ?_); rintro e w1 ⟨rfl, hg1⟩; obtain ⟨c0, c1, c2, c3, c4, c5, c6, c7, c8, c9⟩ := c10_new hg1; have e0 := cell_alloc c0; have e1 := cell_alloc c1; have e2 := cell_alloc c2; have e3 := cell_alloc c3; have e4 := cell_alloc c4; have e5 := cell_alloc c5)
          | (go_at_call 40; have _t := A1; go_must (refine (A1 _).mono ?_); rintro e w2 ⟨rfl, hg2⟩; clear A1; have y2 := cell_kept hg2 0 _ rfl; have f0 := hg2.cell (cell_alloc c0 _) (by simp); have f1 := hg2.cell (cell_alloc c1 _) (by simp); have f6 := hg2.cell (cell_alloc c6 _) (by simp); have f7 := hg2.cell (cell_alloc c7 _) (by simp); have f8 := hg2.cell (cell_alloc c8 _) (by simp); have f9 := hg2.cell (cell_alloc c9 _) (by simp))
          | (go_at_call 40; go_must (refine (A2 _).mono ?_); rintro e w3 ⟨rfl, hg3⟩; have g0 := hg3.cell f0 (by simp); have g1 := hg3.cell f1 (by simp)))
        all_goals
          go_ret2
          exact ⟨congrArg (fun x => Ending.returned (.tuple #[.int .i64 x, .int .i64 0])) (by rw [HR.out]; go_light; (repeat' split) <;> first | rfl | omega), grown_more (grown_more (grown_alloc (grown_more (World.grownBy_alloc w _ none) hg1 (by simp)) _) hg2 (by simp)) hg3 (by simp)⟩
      · have r3 := decide_eq_false q3
        go_enter Tryd.func25, Tryd.ntmps25
        go_wp2_with (first
          | (go_at_call 39; go_must (refine (F _).mono ?_); rintro e w1 ⟨rfl, hg1⟩; obtain ⟨c0, c1, c2, c3, c4, c5, c6, c7, c8, c9⟩ := c10_new hg1; have e0 := cell_alloc c0; have e1 := cell_alloc c1; have e2 := cell_alloc c2; have e3 := cell_alloc c3; have e4 := cell_alloc c4; have e5 := cell_alloc c5)
          | (go_at_call 40; have _t := A1; go_must (refine (A1 _).mono ?_); rintro e w2 ⟨rfl, hg2⟩; clear A1; have y2 := cell_kept hg2 0 _ rfl; have f0 := hg2.cell (cell_alloc c0 _) (by simp); have f1 := hg2.cell (cell_alloc c1 _) (by simp); have f6 := hg2.cell (cell_alloc c6 _) (by simp); have f7 := hg2.cell (cell_alloc c7 _) (by simp); have f8 := hg2.cell (cell_alloc c8 _) (by simp); have f9 := hg2.cell (cell_alloc c9 _) (by simp))
          | (go_at_call 40; go_must (refine (A2 _).mono ?_); rintro e w3 ⟨rfl, hg3⟩; have g0 := hg3.cell f0 (by simp); have g1 := hg3.cell f1 (by simp)))
        all_goals
          go_ret2
          exact ⟨congrArg (fun x => Ending.returned (.tuple #[.int .i64 x, .int .i64 0])) (by rw [HR.out]; go_light; (repeat' split) <;> first | rfl | omega), grown_more (grown_more (grown_alloc (grown_more (World.grownBy_alloc w _ none) hg1 (by simp)) _) hg2 (by simp)) hg3 (by simp)⟩
    · have r2 := decide_eq_false q2
      go_enter Tryd.func25, Tryd.ntmps25
      go_wp2_with (first
        | (go_at_call 39; go_must (refine (F _).mono ?_); rintro e w1 ⟨rfl, hg1⟩; obtain ⟨c0, c1, c2, c3, c4, c5, c6, c7, c8, c9⟩ := c10_new hg1; have e0 := cell_alloc c0; have e1 := cell_alloc c1; have e2 := cell_alloc c2; have e3 := cell_alloc c3; have e4 := cell_alloc c4; have e5 := cell_alloc c5)
        | (go_at_call 40; have _t := A1; go_must (refine (A1 _).mono ?_); rintro e w2 ⟨rfl, hg2⟩; clear A1; have y2 := cell_kept hg2 0 _ rfl; have f0 := hg2.cell (cell_alloc c0 _) (by simp); have f1 := hg2.cell (cell_alloc c1 _) (by simp); have f6 := hg2.cell (cell_alloc c6 _) (by simp); have f7 := hg2.cell (cell_alloc c7 _) (by simp); have f8 := hg2.cell (cell_alloc c8 _) (by simp); have f9 := hg2.cell (cell_alloc c9 _) (by simp))
        | (go_at_call 40; go_must (refine (A2 _).mono ?_); rintro e w3 ⟨rfl, hg3⟩; have g0 := hg3.cell f0 (by simp); have g1 := hg3.cell f1 (by simp)))
      all_goals
        go_ret2
        exact ⟨congrArg (fun x => Ending.returned (.tuple #[.int .i64 x, .int .i64 0])) (by rw [HR.out]; go_light; (repeat' split) <;> first | rfl | omega), grown_more (grown_more (grown_alloc (grown_more (World.grownBy_alloc w _ none) hg1 (by simp)) _) hg2 (by simp)) hg3 (by simp)⟩
  · have r1 := decide_eq_false q1
    by_cases q2 : off ≤ t
    · by_cases q3 : t < on
      · have r3 := decide_eq_true q3
        go_enter Tryd.func25, Tryd.ntmps25
        go_wp2_with (first
          | (go_at_call 39; go_must (refine (F _).mono ?_); rintro e w1 ⟨rfl, hg1⟩; obtain ⟨c0, c1, c2, c3, c4, c5, c6, c7, c8, c9⟩ := c10_new hg1; have e0 := cell_alloc c0; have e1 := cell_alloc c1; have e2 := cell_alloc c2; have e3 := cell_alloc c3; have e4 := cell_alloc c4; have e5 := cell_alloc c5)
          | (go_at_call 40; have _t := A1; go_must (refine (A1 _).mono ?_); rintro e w2 ⟨rfl, hg2⟩; clear A1; have y2 := cell_kept hg2 0 _ rfl; have f0 := hg2.cell (cell_alloc c0 _) (by simp); have f1 := hg2.cell (cell_alloc c1 _) (by simp); have f6 := hg2.cell (cell_alloc c6 _) (by simp); have f7 := hg2.cell (cell_alloc c7 _) (by simp); have f8 := hg2.cell (cell_alloc c8 _) (by simp); have f9 := hg2.cell (cell_alloc c9 _) (by simp))
          | (go_at_call 40; go_must (refine (A2 _).mono ?_); rintro e w3 ⟨rfl, hg3⟩; have g0 := hg3.cell f0 (by simp); have g1 := hg3.cell f1 (by simp)))
        all_goals
          go_ret2
          exact ⟨congrArg (fun x => Ending.returned (.tuple #[.int .i64 x, .int .i64 0])) (by rw [HR.out]; go_light; (repeat' split) <;> first | rfl | omega), grown_more (grown_more (grown_alloc (grown_more (World.grownBy_alloc w _ none) hg1 (by simp)) _) hg2 (by simp)) hg3 (by simp)⟩
      · have r3 := decide_eq_false q3
        go_enter Tryd.func25, Tryd.ntmps25
        go_wp2_with (first
          | (go_at_call 39; go_must (refine (F _).mono ?_); rintro e w1 ⟨rfl, hg1⟩; obtain ⟨c0, c1, c2, c3, c4, c5, c6, c7, c8, c9⟩ := c10_new hg1; have e0 := cell_alloc c0; have e1 := cell_alloc c1; have e2 := cell_alloc c2; have e3 := cell_alloc c3; have e4 := cell_alloc c4; have e5 := cell_alloc c5)
          | (go_at_call 40; have _t := A1; go_must (refine (A1 _).mono ?_); rintro e w2 ⟨rfl, hg2⟩; clear A1; have y2 := cell_kept hg2 0 _ rfl; have f0 := hg2.cell (cell_alloc c0 _) (by simp); have f1 := hg2.cell (cell_alloc c1 _) (by simp); have f6 := hg2.cell (cell_alloc c6 _) (by simp); have f7 := hg2.cell (cell_alloc c7 _) (by simp); have f8 := hg2.cell (cell_alloc c8 _) (by simp); have f9 := hg2.cell (cell_alloc c9 _) (by simp))
          | (go_at_call 40; go_must (refine (A2 _).mono ?_); rintro e w3 ⟨rfl, hg3⟩; have g0 := hg3.cell f0 (by simp); have g1 := hg3.cell f1 (by simp)))
        all_goals
          go_ret2
          exact ⟨congrArg (fun x => Ending.returned (.tuple #[.int .i64 x, .int .i64 0])) (by rw [HR.out]; go_light; (repeat' split) <;> first | rfl | omega), grown_more (grown_more (grown_alloc (grown_more (World.grownBy_alloc w _ none) hg1 (by simp)) _) hg2 (by simp)) hg3 (by simp)⟩
    · have r2 := decide_eq_false q2
      go_enter Tryd.func25, Tryd.ntmps25
      go_wp2_with (first
        | (go_at_call 39; go_must (refine (F _).mono ?_); rintro e w1 ⟨rfl, hg1⟩; obtain ⟨c0, c1, c2, c3, c4, c5, c6, c7, c8, c9⟩ := c10_new hg1; have e0 := cell_alloc c0; have e1 := cell_alloc c1; have e2 := cell_alloc c2; have e3 := cell_alloc c3; have e4 := cell_alloc c4; have e5 := cell_alloc c5)
        | (go_at_call 40; have _t := A1; go_must (refine (A1 _).mono ?_); rintro e w2 ⟨rfl, hg2⟩; clear A1; have y2 := cell_kept hg2 0 _ rfl; have f0 := hg2.cell (cell_alloc c0 _) (by simp); have f1 := hg2.cell (cell_alloc c1 _) (by simp); have f6 := hg2.cell (cell_alloc c6 _) (by simp); have f7 := hg2.cell (cell_alloc c7 _) (by simp); have f8 := hg2.cell (cell_alloc c8 _) (by simp); have f9 := hg2.cell (cell_alloc c9 _) (by simp))
        | (go_at_call 40; go_must (refine (A2 _).mono ?_); rintro e w3 ⟨rfl, hg3⟩; have g0 := hg3.cell f0 (by simp); have g1 := hg3.cell f1 (by simp)))
      all_goals
        go_ret2
        exact ⟨congrArg (fun x => Ending.returned (.tuple #[.int .i64 x, .int .i64 0])) (by rw [HR.out]; go_light; (repeat' split) <;> first | rfl | omega), grown_more (grown_more (grown_alloc (grown_more (World.grownBy_alloc w _ none) hg1 (by simp)) _) hg2 (by simp)) hg3 (by simp)⟩

/-- The document's own offset is the program's. -/
theorem rOffset_any (z : Zon.Z) (hz : z.ok) (t : Int) (t1 : 0 ≤ t) (t2 : t ≤ 226157759) (w : World) :
    Calls Tryd.prog 25 #[zon z, .int .i64 t] w fun e w' => e = .returned (.tuple #[.int .i64 (z.at t), .int .i64 0]) ∧ w.grownBy w' none := by
  by_cases hs : z.s = 0
  · rw [Zon.at_zero hs]
    exact rOffset_zero z hs t t1 t2 w
  · refine rOffset_two z hz ?_ hs t t1 t2 w
    rcases hz.2.2.2.2 with h | h
    · exact absurd h.1 hs
    · exact h
end Go.Proofs.YtlnafkcoicaefaaDoor
