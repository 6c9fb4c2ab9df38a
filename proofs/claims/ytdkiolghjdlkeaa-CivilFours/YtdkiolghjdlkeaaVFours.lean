/- 'CivilFours', walked. -/
import Derived.Test.YtdkiolghjdlkeaaVAwake
namespace Go.Proofs.Ytdkiolghjdlkeaa
open Go.RowKit

set_option maxRecDepth 100000 in
set_option maxHeartbeats 800000 in
theorem civilFours.walk0 (w : World) (t : Int) :
    Calls Try.prog 6 #[.int .i64 t] w fun e w' => e = .returned (.bool true) ∧ Below w.heap.size w w' := by
  have hnot : ∀ (x : Bool) (w : World), (Op.unary .not (.bool x)).run Try.prog w = .ok (.bool (!x)) w := fun _ _ => rfl
  by_cases h1 : t < 0
  · go_enter Try.func6, Try.ntmps6
    go_wp2_with (go_at_call 8; go_must (refine (awake_any _).mono ?_); rintro e w1 ⟨rfl, hg1⟩)
    go_ret
    exact ⟨rfl, grown_below hg1⟩
  by_cases h2 : 15778079 < t
  · go_enter Try.func6, Try.ntmps6
    go_wp2_with (go_at_call 8; go_must (refine (awake_any _).mono ?_); rintro e w1 ⟨rfl, hg1⟩)
    go_ret
    exact ⟨rfl, grown_below hg1⟩
  have h1' : 0 ≤ t := by omega
  have h2' : t ≤ 15778079 := by omega
  clear h1 h2
  obtain ⟨y, m, d, hA⟩ := Civ.At.is (n := t / 1440) (by omega) (by omega)
  have hB := hA.later (by omega)
  have e1 : t / 1440 + 146097 = (t + 210379680) / 1440 := by omega
  rw [e1] at hB
  have F1 := from_at hA
  have F2 := from_at hB
  have e2 : (t + 210379680) % 1440 / 60 = t % 1440 / 60 := by omega
  have e3 : (t + 210379680) % 60 = t % 60 := by omega
  have e4 : Civ.wk ((t + 210379680) / 1440) = Civ.wk (t / 1440) := by unfold Civ.wk; omega
  rw [e2, e3, e4] at F2
  have hy1 := hA.y1
  have hy2 := hA.y2
  obtain ⟨k, hk⟩ : ∃ k, k = Civ.wk (t / 1440) := ⟨_, rfl⟩
  rw [← hk] at F1 F2
  obtain ⟨a, ha⟩ : ∃ a, a = t % 1440 / 60 := ⟨_, rfl⟩
  obtain ⟨b, hb⟩ : ∃ b, b = t % 60 := ⟨_, rfl⟩
  rw [← ha, ← hb] at F1 F2
  clear hA hB e1 e2 e3 e4 hk ha hb
  go_enter Try.func6, Try.ntmps6
  go_wp2_with (first
    | (go_at_call 8; go_must (refine (awake_any _).mono ?_); rintro e w1 ⟨rfl, hg1⟩; have tok1 : True := trivial)
    | (go_at_call 9; have _t := tok1; go_must (refine (F1 _).mono ?_); rintro e w2 ⟨rfl, hg2⟩; clear tok1)
    | (go_at_call 9; go_must (refine (F2 _).mono ?_); rintro e w3 ⟨rfl, hg3⟩; have c0 := cell_kept hg3 0 (.int .i64 y) rfl; have c1 := cell_kept hg3 1 (.int .i64 m) rfl; have c2 := cell_kept hg3 2 (.int .i64 d) rfl; have c3 := cell_kept hg3 3 (.int .i64 a) rfl; have c4 := cell_kept hg3 4 (.int .i64 b) rfl; have c5 := cell_kept hg3 5 (.int .i64 k) rfl; have z0 := frozen_kept hg3 0; have s3 := size_kept hg3))
  have g2 := grown_more hg1 hg2 (by simp)
  have g3 := grown_more (grown_alloc g2 _) hg3 (by simp)
  have s2 := g2.size
  go_ret
  exact ⟨rfl, grown_below (grown_alloc (grown_set_new g3 _ s2 _) _)⟩

theorem civilFours.walk (w : World) (t : Int) (_ : (Lit.int .i64 t).wf = true) :
    Calls Try.prog 6 #[.int .i64 t] w fun e w' => e = .returned (.bool true) ∧ Below w.heap.size w w' := civilFours.walk0 w t
end Go.Proofs.Ytdkiolghjdlkeaa
