/- What 'Is' answers. -/
import Derived.Test.YtegekjgjabckgaaGreatDoorDNext
namespace Go.Proofs.YtegekjgjabckgaaGreatDoor
open Go.RowKit
set_option linter.unusedVariables false

theorem Due.fit_at {c : Cro.C} {L y m d : Int} (hA : Civ.At (L / 1440) y m d) : Due.Fit c L ↔ c.fits y m d (L % 1440 / 60) (L % 60) (Civ.wk (L / 1440)) = true := by
  constructor
  · rintro ⟨y', m', d', hB, h⟩
    obtain ⟨rfl, rfl, rfl⟩ := hA.one hB
    exact h
  · intro h
    exact ⟨y, m, d, hA, h⟩

set_option maxRecDepth 100000 in
set_option maxHeartbeats 1600000 in
theorem is_zone (c : Cro.C) (z : Zon.Z) (hz : ¬ z.ok) (t : Int) (w : World) :
    Calls Tryz.prog 12 #[crv c, zon z, .int .i64 t] w fun e w' => e = .returned (.bool false) ∧ w.grownBy w' none := by
  have MB := make_bad z hz
  have K2 := fun o1 o2 => grown_alloc (World.grownBy_alloc w o1 none) o2
  clear hz
  go_enter Tryz.func12, Tryz.ntmps12
  go_wp2_with (go_at_call 22; go_must (refine (MB _).mono ?_); rintro e w1 ⟨rfl, hg1⟩)
  go_ret
  exact ⟨rfl, grown_more (K2 _ _) hg1 (by simp)⟩

set_option maxRecDepth 100000 in
set_option maxHeartbeats 1600000 in
theorem is_out (c : Cro.C) (z : Zon.Z) (hz : z.ok) (t y m d h n k er : Int) (her : er ≠ 0) (w : World)
    (LO : ∀ w' b, Zn w' b z → Calls Tryz.prog 23 #[.pointer (some ⟨b, 0, none⟩), .int .i64 t] w' fun e w'' => e = .returned (.tuple #[civ y m d h n k, .int .i64 er]) ∧ w'.grownBy w'' (some b)) :
    Calls Tryz.prog 12 #[crv c, zon z, .int .i64 t] w fun e w' => e = .returned (.bool false) ∧ w.grownBy w' none := by
  have MO := make_ok z hz
  have h0 : (er == 0) = false := by simpa using her
  have K2 := fun o1 o2 => grown_alloc (World.grownBy_alloc w o1 none) o2
  clear hz
  go_enter Tryz.func12, Tryz.ntmps12
  go_wp2_with (first
    | (go_at_call 22; go_must (refine (MO _).mono ?_); rintro e w1 ⟨b, rfl, hg1, hb, hb2, hZ1⟩)
    | (go_at_call 23; go_must (refine (LO _ _ hZ1).mono ?_); rintro e w2 ⟨rfl, hg2⟩))
  go_ret
  simp at hb
  exact ⟨rfl, grown_alloc (grown_more (grown_more (K2 _ _) hg1 (by simp)) hg2 (fun q e => .inr (by injection e with e; omega))) _⟩

set_option maxRecDepth 100000 in
set_option maxHeartbeats 1600000 in
theorem is_in (c : Cro.C) (hc : c.ok) (z : Zon.Z) (hz : z.ok) (t y m d h n k : Int) (w : World) (hG : Gl w)
    (LO : ∀ w' b, Zn w' b z → Calls Tryz.prog 23 #[.pointer (some ⟨b, 0, none⟩), .int .i64 t] w' fun e w'' => e = .returned (.tuple #[civ y m d h n k, .int .i64 0]) ∧ w'.grownBy w'' (some b)) :
    Calls Tryz.prog 12 #[crv c, zon z, .int .i64 t] w fun e w' => e = .returned (.bool (c.fits y m d h n k)) ∧ w.grownBy w' none := by
  have MO := make_ok z hz
  have FT := Fits_any c hc y m d h n k
  generalize c.fits y m d h n k = f at FT ⊢
  have K2 := fun o1 o2 => grown_alloc (World.grownBy_alloc w o1 none) o2
  have B1 := fun (w1 : World) o1 o2 (h : ((w.alloc o1).alloc o2).grownBy w1 none) => grown_more (World.grownBy_alloc (w.alloc o1) o2 none) h (by simp)
  clear hz hc
  go_enter Tryz.func12, Tryz.ntmps12
  go_wp2_with (first
    | (go_at_call 22; go_must (refine (MO _).mono ?_); rintro e w1 ⟨b, rfl, hg1, hb, hb2, hZ1⟩; have hbw : w.heap.size + 2 ≤ b := (by simp at hb; omega); have kc1 := B1 _ _ _ hg1; have k1 := grown_more (K2 _ _) hg1 (by simp))
    | (go_at_call 23; go_must (refine (LO _ _ hZ1).mono ?_); rintro e w2 ⟨rfl, hg2⟩; have k2 := fun o => grown_alloc (grown_more k1 hg2 (fun q e => .inr (by injection e with e; omega))) o; have kc2 := fun o => grown_alloc (grown_more kc1 hg2 (fun q e => .inr (by injection e with e; simp; omega))) o; have x0 := fun o => cell_kept (kc2 o) 0 _ rfl; have x1 := fun o => cell_kept (kc2 o) 1 _ rfl; have x2 := fun o => cell_kept (kc2 o) 2 _ rfl; have x3 := fun o => cell_kept (kc2 o) 3 _ rfl; have x4 := fun o => cell_kept (kc2 o) 4 _ rfl; have x5 := fun o => cell_kept (kc2 o) 5 _ rfl; have x6 := fun o => cell_kept (kc2 o) 6 _ rfl)
    | (go_at_call 24; go_must (refine (FT _ (hG.kept (k2 _))).mono ?_); rintro e w3 ⟨rfl, hg3⟩))
  go_ret
  exact ⟨rfl, grown_more (k2 _) hg3 (by simp)⟩

theorem Is_any (c : Cro.C) (hc : c.ok) (z : Zon.Z) (P : Nat → Bool) (hP : Due.IsP c z P) (t : Int) (w : World) (hG : Gl w) :
    Calls Tryz.prog 12 #[crv c, zon z, .int .i64 t] w fun e w' => e = .returned (.bool (Due.isV P z t)) ∧ w.grownBy w' none := by
  unfold Due.isV
  by_cases hz : z.ok
  · rw [decide_eq_true hz]
    by_cases ht : 0 ≤ t ∧ t ≤ 226157759
    · rw [decide_eq_true ht]
      obtain ⟨n, rfl⟩ : ∃ n : Nat, t = n := ⟨t.toNat, by omega⟩
      have hn := hP n
      have LB := fun y m d h n' k er F w' b hZ => (local_by b z hz (n : Int) ht.1 ht.2 y m d h n' k er F w' hZ).mono fun e w'' ⟨he, s, hR, hg⟩ => (⟨he, hg⟩ : _ ∧ _)
      simp only [Int.toNat_natCast, Bool.true_and]
      generalize (n : Int) + z.at n = L at *
      by_cases hin : 0 ≤ L ∧ L ≤ 226157759
      · obtain ⟨y, m, d, hA⟩ := Civ.At.is (n := L / 1440) (by omega) (by omega)
        have := is_in c hc z hz n _ _ _ _ _ _ w hG (LB y m d (L % 1440 / 60) (L % 60) (Civ.wk (L / 1440)) 0 (fun w => from_at hA w))
        rw [show P n = c.fits y m d (L % 1440 / 60) (L % 60) (Civ.wk (L / 1440)) by rw [Bool.eq_iff_iff, hn, Due.fit_at hA]]
        exact this
      · have hf : P n = false := by
          cases h : P n with
          | false => rfl
          | true => exact absurd (Due.fit_range (hn.mp h)) hin
        rw [hf]
        exact is_out c z hz n _ _ _ _ _ _ 30 (by decide) w (LB 0 0 0 0 0 0 30 (fun w => from_bad L (by omega) w))
    · rw [decide_eq_false ht]
      exact is_out c z hz t 0 0 0 0 0 0 30 (by decide) w (fun w' b hZ => (local_bad b t (by omega) w').mono fun e w'' ⟨he, hg⟩ => ⟨he, grown_more (grown_refl _ _) hg (by simp)⟩)
  · rw [decide_eq_false hz]
    exact is_zone c z hz t w
end Go.Proofs.YtegekjgjabckgaaGreatDoor
