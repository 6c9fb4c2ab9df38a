/- Check. -/
import Derived.Test.YtlolhdijadhklaaAPlanB
namespace Go.Proofs.Ytlolhdijadhklaa
open Go.RowKit Atl
set_option linter.unusedVariables false
set_option maxRecDepth 10000

set_option maxRecDepth 100000 in
set_option maxHeartbeats 3200000 in
theorem check_any (a : Am) (u : S3) (w : World) (h : Rat w a u) (hz : Szm a) : Calls Try.prog 14 #[av a u] w fun e w' => e = .returned (.bool (chk a)) ∧ w.grownBy w' none := by
  have SA : Hid (∀ W, w.grownBy W none → _) := fun W g => spans_any a u W (h.grown g) hz.1
  have PA : Hid (∀ W, w.grownBy W none → _) := fun W g => plan_any a u W (h.grown g) hz.2
  obtain ⟨W1, hW1⟩ : ∃ W1, W1 = w.alloc (.cells (aa a u) 26) := ⟨_, rfl⟩
  have G1 : Hid (w.grownBy W1 none) := by rw [hW1]; exact World.grownBy_alloc _ _ none
  have CA : Hid (∀ W, W1.grownBy W none → W.rangeAt w.heap.size 0 (ac a u)) := fun W g => by rw [hW1] at g; exact (cs_new g).1
  have HW1 : Hid (W1 = _) := hW1
  unfold chk
  clear hW1 h hz
  have S1 := SA.out W1 G1.out
  cases h1 : spansB a with
  | false =>
    rw [h1] at S1
    go_enter Try.func14, Try.ntmps14
    go_upto_region 1 with fail
    rw [← HW1.out]
    go_wp2_with (first | (refine load_a w.heap.size 0 a u rfl (CA.out W1 (grown_refl _ _)) ?_) | (go_at_call 43; (with_reducible refine S1.mono ?_); rintro e w2 ⟨rfl, g2⟩))
    go_ret
    exact ⟨rfl, grown_tr G1.out g2⟩
  | true =>
    rw [h1] at S1
    generalize planB a = B at *
    go_enter Try.func14, Try.ntmps14
    go_upto_region 1 with fail
    rw [← HW1.out]
    go_wp2_with (first | (refine load_a w.heap.size 0 a u rfl (CA.out W1 (grown_refl _ _)) ?_) | (go_at_call 43; (with_reducible refine S1.mono ?_); rintro e w2 ⟨rfl, g2⟩) | (refine load_ag w.heap.size 0 a u (by rfl) rfl (CA.out w2 g2) ?_) | (go_at_call 44; (with_reducible refine (PA.out _ (grown_tr G1.out g2)).mono ?_); rintro e w3 ⟨rfl, g3⟩))
    go_ret
    exact ⟨rfl, grown_tr G1.out (grown_tr g2 g3)⟩

end Go.Proofs.Ytlolhdijadhklaa
