/- What 'moment' answers. -/
import Derived.Test.YteiiapnpdfgoaaaDoorZMake
namespace Go.Proofs.YteiiapnpdfgoaaaDoor
open Go.RowKit
set_option linter.unusedVariables false

theorem mom_inst {r : Zon.R} (h : r.ok) {y : Int} (y1 : 1970 ≤ y) (y2 : y ≤ 2399) : Thr y r.m (Civ.nthOf y r.m r.k r.d) 0 0 ∧ inst y r.m (Civ.nthOf y r.m r.k r.d) 0 0 + r.a = Zon.mom r y ∧ 0 ≤ inst y r.m (Civ.nthOf y r.m r.k r.d) 0 0 ∧ inst y r.m (Civ.nthOf y r.m r.k r.d) 0 0 ≤ 226157759 := by
  obtain ⟨m1, m2, k1, k2, d1, d2, a1, a2⟩ := h
  rw [Zon.nthOf_is y1 y2 m1 m2 k1 k2 d1 d2]
  have hb := Zon.nth_bd (y := y) (m := r.m) (d := r.d) k1 k2
  have hA : Civ.At (Civ.d2y y + Civ.cum y r.m + Civ.nth y r.m r.k r.d - 1) y r.m (Civ.nth y r.m r.k r.d) := ⟨y1, y2, m1, m2, hb.1, hb.2, rfl⟩
  have hr := hA.range
  unfold inst Zon.mom
  refine ⟨⟨hb.1, by rw [hA.dys]; exact hb.2, by omega, by omega, by omega, by omega⟩, by omega, by omega, by omega⟩

set_option maxRecDepth 100000 in
set_option maxHeartbeats 400000 in
theorem moment_any (r : Zon.R) (h : r.ok) (y : Int) (y1 : 1970 ≤ y) (y2 : y ≤ 2399) (w : World) :
    Calls Tryd.prog 68 #[rul r, .int .i64 y] w fun e w' => e = .returned (.int .i64 (Zon.mom r y)) ∧ w.grownBy w' none := by
  obtain ⟨hT, hM, hi1, hi2⟩ := mom_inst h y1 y2
  have TO := to_ok y r.m (Civ.nthOf y r.m r.k r.d) 0 0 0 hT
  have NT := nth_any y r.m r.k r.d ⟨by have := h.2.2.1; omega, by have := h.2.2.2.1; omega⟩ ⟨by have := h.2.2.2.2.1; omega, by have := h.2.2.2.2.2.1; omega⟩
  have ha1 := h.2.2.2.2.2.2.1
  have ha2 := h.2.2.2.2.2.2.2
  rw [← hM]
  clear hM hT h y1 y2
  obtain ⟨m, k, d, a⟩ := r
  simp only [rul] at *
  obtain ⟨D, hD⟩ : ∃ D, D = Civ.nthOf y m k d := ⟨_, rfl⟩
  rw [← hD] at TO NT hi1 hi2 ⊢
  obtain ⟨I, hI⟩ : ∃ I, I = inst y m D 0 0 := ⟨_, rfl⟩
  rw [← hI] at TO hi1 hi2 ⊢
  clear hD hI
  go_enter Tryd.func68, Tryd.ntmps68
  go_wp2_with (first
    | (go_at_call 78; go_must (refine (NT _).mono ?_); rintro e w1 ⟨rfl, rfl⟩)
    | (go_at_call 15; go_must (refine (TO _).mono ?_); rintro e w2 ⟨rfl, hg2⟩; have c3 := cell_kept hg2 3 _ rfl))
  go_ret
  exact ⟨rfl, grown_more (World.grownBy_alloc w _ none) hg2 (by simp)⟩
end Go.Proofs.YteiiapnpdfgoaaaDoor
