/- Which lists are configurations, which sets win: the statement's walk. -/
import Derived.Test.YtakfobllkoghdaaUArgs
namespace Go.Proofs.Ytakfobllkoghdaa
open Go.RowKit Quo
set_option linter.unusedVariables false

namespace quorumDecides
set_option maxRecDepth 100000 in
set_option maxHeartbeats 3200000 in
theorem walk (w : World) (v0 : Value) (o0 : ∃ l, Tk w v0 l) (v1 : Value) (o1 : ∃ l, Tk w v1 l) (v2 : Value) (o2 : ∃ l, Tk w v2 l) :
    Calls Try.prog 3 #[v0, v1, v2] w fun e w' => e = .returned (.bool true) ∧ Below w.heap.size w w' := by
  obtain ⟨a, ha, hal, _⟩ := o0
  obtain ⟨b, hb, hbl, _⟩ := o1
  obtain ⟨s, hs, hsl, _⟩ := o2
  have AW := awake_any w
  have CK : ∀ W, w.grownBy W none → _ := fun W g => check_any v0 a W (ha.grown g) hal
  have CR : ∀ W, w.grownBy W none → _ := fun W g => rcheck_any v0 a W (ha.grown g) hal
  have WA : ∀ W, w.grownBy W none → _ := fun W g => wins_any v0 v2 a s W (ha.grown g) hal (hs.grown g) hsl
  have RA : ∀ W, w.grownBy W none → _ := fun W g => rwins_any v0 v2 a s W (ha.grown g) hal (hs.grown g) hsl
  have RB : ∀ W, w.grownBy W none → _ := fun W g => rwins_any v1 v2 b s W (hb.grown g) hbl (hs.grown g) hsl
  have BO : ∀ W, w.grownBy W none → _ := fun W g => both_any v0 v1 v2 a b s W (ha.grown g) hal (hb.grown g) hbl (hs.grown g) hsl
  obtain ⟨aa, ca, hv⟩ := ha.form
  subst hv
  obtain ⟨ab, cb, hv⟩ := hb.form
  subst hv
  obtain ⟨aq, cq, hv⟩ := hs.form
  subst hv
  generalize a.length = na at *
  generalize b.length = nb at *
  generalize s.length = ns at *
  clear ha hb hs
  cases h1 : chk a <;> cases h2 : wins a s <;> cases h3 : wins b s
  all_goals
    simp only [h1] at CK CR
    simp only [h2] at WA RA BO
    simp only [h3] at RB BO
    go_enter Try.func3, Try.ntmps3
    go_wp2_with (first
      | (go_at_call 9; (with_reducible refine AW.mono ?_); rintro e w1 ⟨rfl, hg1⟩)
      | (go_at_call 10; (with_reducible refine (CK _ hg1).mono ?_); rintro e w2 ⟨rfl, rfl⟩)
      | (go_at_call 11; (with_reducible refine (CR _ hg1).mono ?_); rintro e w2 ⟨rfl, rfl⟩)
      | (go_at_call 12; (with_reducible refine (WA _ hg1).mono ?_); rintro e w2 ⟨rfl, rfl⟩)
      | (go_at_call 13; (with_reducible refine (RA _ hg1).mono ?_); rintro e w2 ⟨rfl, rfl⟩)
      | (go_at_call 13; (with_reducible refine (RB _ hg1).mono ?_); rintro e w2 ⟨rfl, rfl⟩)
      | (go_at_call 14; (with_reducible refine (BO _ hg1).mono ?_); rintro e w2 ⟨rfl, rfl⟩))
    go_ret
    exact ⟨rfl, grown_below hg1⟩
end quorumDecides
end Go.Proofs.Ytakfobllkoghdaa
