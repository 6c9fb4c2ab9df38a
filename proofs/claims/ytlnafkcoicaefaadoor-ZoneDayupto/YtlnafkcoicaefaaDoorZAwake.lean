/- The statements' first look, 'awake', answers true and turns nothing that was there. -/
import Derived.Test.YtlnafkcoicaefaaDoorZNamed
namespace Go.Proofs.YtlnafkcoicaefaaDoor
open Go.RowKit
set_option linter.unusedVariables false

theorem berlin1 : (kz 0).at 28530779 = 60 := by
  rw [Zon.at_year (z := kz 0) (by decide) (by decide) (t := 28530779) (y := 2024) (by decide) (by decide) (by decide) (by decide)]
  decide
theorem berlin2 : (kz 0).at 28530780 = 120 := by
  rw [Zon.at_year (z := kz 0) (by decide) (by decide) (t := 28530780) (y := 2024) (by decide) (by decide) (by decide) (by decide)]
  decide
theorem named_berlin (w : World) (hK : Kn w) :
    Calls Tryd.prog 16 #[.string (nm 0)] w fun e w' => w.grownBy w' none ∧ ∃ b, e = .returned (.tuple #[.pointer (some ⟨b, 0, none⟩), .int .i64 0]) ∧ w.heap.size ≤ b ∧ b < w'.heap.size ∧ Zn w' b (kz 0) := by
  refine (named_any (nm 0) w hK).mono fun e w' ⟨hg, h⟩ => ⟨hg, ?_⟩
  rcases h with ⟨i, b, hi, hs, he, h1, h2, h3⟩ | ⟨h, _⟩
  · have h0 : i = 0 := by
      have hi' : i = 0 ∨ i = 1 ∨ i = 2 ∨ i = 3 ∨ i = 4 ∨ i = 5 ∨ i = 6 := by omega
      rcases hi' with rfl | rfl | rfl | rfl | rfl | rfl | rfl
      · rfl
      all_goals exact absurd (congrArg (fun s : ByteArray => s.data.toList) hs) (by decide)
    subst h0
    exact ⟨b, he, h1, h2, h3⟩
  · exact absurd rfl (h 0 (by omega))

set_option maxRecDepth 100000 in
set_option maxHeartbeats 800000 in
theorem awake_any (w : World) (hK : Kn w) :
    Calls Tryd.prog 8 #[] w fun e w' => e = .returned (.bool true) ∧ w.grownBy w' none := by
  have N := named_berlin w hK
  have M := make_bad ⟨841, 0, ⟨0, 0, 0, 0⟩, ⟨0, 0, 0, 0⟩⟩ (by decide)
  have O1 := fun b w => offset_any b (kz 0) (kz_ok 0) 28530779 (by decide) (by decide) w
  have O2 := fun b w => offset_any b (kz 0) (kz_ok 0) 28530780 (by decide) (by decide) w
  rw [berlin1] at O1
  rw [berlin2] at O2
  simp only [zon] at M
  go_enter Tryd.func8, Tryd.ntmps8
  go_wp2_with (first
    | (go_at_call 16; go_must (refine N.mono ?_); rintro e w1 ⟨hg1, b, rfl, hb1, hb2, hZ⟩)
    | (go_at_call 9; go_must (refine (M _).mono ?_); rintro e w2 ⟨rfl, hg2⟩; have hZ2 := hZ.kept hg2)
    | (go_at_call 17; have _t := O1; go_must (refine (O1 b _ hZ2).mono ?_); rintro e w3 ⟨rfl, s3, hR3, hg3⟩; clear O1)
    | (go_at_call 17; go_must (refine (O2 b _ hR3.zn).mono ?_); rintro e w4 ⟨rfl, s4, hR4, hg4⟩))
  go_ret
  refine ⟨rfl, grown_more (grown_more (grown_more hg1 hg2 (by simp)) hg3 ?_) hg4 ?_⟩
  · intro k e; injection e with e; exact .inr (by omega)
  · intro k e; injection e with e; exact .inr (by omega)
end Go.Proofs.YtlnafkcoicaefaaDoor
