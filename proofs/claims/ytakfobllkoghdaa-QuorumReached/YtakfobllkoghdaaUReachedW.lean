/- What more than half have reached, which configuration comes next: the statement's walk. -/
import Derived.Test.YtakfobllkoghdaaUArgs
namespace Go.Proofs.Ytakfobllkoghdaa
open Go.RowKit Quo
set_option linter.unusedVariables false

namespace quorumReached
set_option maxRecDepth 100000 in
set_option maxHeartbeats 3200000 in
theorem walk (w : World) (v0 : Value) (o0 : ∃ l, Tk w v0 l) (v1 : Value) (o1 : ∃ l, Ti w v1 l) (x2 : Int) (wx2 : (Lit.int .i64 x2).wf = true) (x3 : Int) (wx3 : (Lit.int .i64 x3).wf = true) :
    Calls Try.prog 4 #[v0, v1, .int .i64 x2, .int .i64 x3] w fun e w' => e = .returned (.bool true) ∧ Below w.heap.size w w' := by
  obtain ⟨c, hc, hcl, _⟩ := o0
  obtain ⟨m, hm, hml, _⟩ := o1
  obtain ⟨E, hE⟩ : ∃ E, nxE c x2 x3 = E := ⟨_, rfl⟩
  obtain ⟨L, hL⟩ : ∃ L, nxL c x2 x3 = L := ⟨_, rfl⟩
  have LL : L.length ≤ 9223372036854775807 := by
    rw [← hL]
    unfold nxL nxB
    split
    · rename_i h
      simp only [Bool.and_eq_true] at h
      have := ((chk_iff _).1 h.2).2.1
      omega
    · simp
  have AW := awake_any w
  have N1 : ∀ W, w.grownBy W none → _ := fun W g => next_is (w := W) (hc.grown g) hcl hE hL
  have N2 : ∀ W, w.grownBy W none → _ := fun W g => rnext_is (w := W) (hc.grown g) hcl hE hL
  have R1 : ∀ W, w.grownBy W none → _ := fun W g => reached_any v0 v1 c m W (hc.grown g) hcl (hm.grown g) hml
  have R2 : ∀ W, w.grownBy W none → _ := fun W g => rreached_any v0 v1 c m W (hc.grown g) hcl (hm.grown g) hml
  obtain ⟨B, hB⟩ : ∃ B, rea c m = B := ⟨_, rfl⟩
  simp only [hB] at R1 R2
  obtain ⟨aa, ca, hv⟩ := hc.form
  subst hv
  obtain ⟨ab, cb, hv⟩ := hm.form
  subst hv
  generalize c.length = na at *
  generalize m.length = nb at *
  clear hc hm hB hE hL wx2 wx3
  have IT : Hid (∀ (W : World) (V U : Value), eK.Rx W V L → eK.Rx W U L → Calls Try.prog 19 #[V, U] W fun e w' => e = .returned (.bool true) ∧ W.grownBy w' none) := fun W V U hV hU => (ints_any V U L L W hV LL hU LL).mono fun e w' ⟨h1, h2⟩ => ⟨by rw [h1]; unfold sameL; rw [decide_eq_true rfl], h2⟩
  go_enter Try.func4, Try.ntmps4
  go_wp2_with (first
    | (go_at_call 9; (with_reducible refine AW.mono ?_); rintro e w1 ⟨rfl, hg1⟩)
    | (go_at_call 15; (with_reducible refine (N1 _ hg1).mono ?_); rintro e w2 ⟨a2, n2, c2, rfl, hn2, hO2, hg2⟩; have hg3 := grown_tr hg1 hg2)
    | (go_at_call 16; (with_reducible refine (N2 _ hg3).mono ?_); rintro e w4 ⟨a4, n4, c4, rfl, hn4, hO4, hg4⟩; have hg5 := grown_tr hg3 hg4; have X2 := hO2.rx.grown hg4; have X4 := hO4.rx)
    | (go_at_call 17; (with_reducible refine (R1 _ hg5).mono ?_); rintro e w6 ⟨rfl, hg6⟩; have hg7 := grown_tr hg5 hg6; have Y2 := X2.grown hg6; have Y4 := X4.grown hg6)
    | (go_at_call 18; (with_reducible refine (R2 _ hg7).mono ?_); rintro e w8 ⟨rfl, rfl⟩)
    | (go_at_call 19; (with_reducible refine (IT.out _ _ _ Y2 Y4).mono ?_); rintro e w9 ⟨rfl, hg9⟩))
  go_ret
  exact ⟨rfl, grown_below (grown_tr hg7 hg9)⟩
end quorumReached
end Go.Proofs.Ytakfobllkoghdaa
