/- What 'To' answers. -/
import Derived.Test.YteiiapnpdfgoaaaDoorVFrom
import Derived.Deep.QuietTactic
import Derived.BigQuiet
namespace Go.Proofs.YteiiapnpdfgoaaaDoor
open Go.RowKit

/-- Is it, but for its weekday, a minute by the calendar? -/
abbrev Thr (y m d h n : Int) : Prop := 1 ≤ d ∧ d ≤ Civ.dys y m ∧ 0 ≤ h ∧ h < 24 ∧ 0 ≤ n ∧ n < 60

set_option maxRecDepth 100000 in
set_option maxHeartbeats 400000 in
theorem there_any (y m d h n k : Int) (w : World) :
    Calls Tryd.prog 30 #[civ y m d h n k] w fun e w' => e = .returned (.bool (decide (Thr y m d h n))) ∧ w.grownBy w' none := by
  have hdone : ∀ o, w.grownBy (w.alloc o) none := fun o => World.grownBy_alloc w o none
  have HY := days_any y m
  have HT : Hid (Thr y m d h n = (1 ≤ d ∧ d ≤ Civ.dys y m ∧ 0 ≤ h ∧ h < 24 ∧ 0 ≤ n ∧ n < 60)) := rfl
  obtain ⟨b, hb⟩ : ∃ b, b = decide (Thr y m d h n) := ⟨_, rfl⟩
  rw [← hb]
  have HB : Hid (b = decide (Thr y m d h n)) := hb
  obtain ⟨D, hD⟩ : ∃ D, D = Civ.dys y m := ⟨_, rfl⟩
  rw [← hD] at HY HT
  clear hb hD
  have fin : ∀ (o : Obj) (q : Nat) (c : Bool), c = decide (1 ≤ d ∧ d ≤ D ∧ 0 ≤ h ∧ h < 24 ∧ 0 ≤ n ∧ n < 60) → Ending.returned (.bool c) = .returned (.bool b) ∧ w.grownBy ((w.alloc o).drewN q) none := fun o q c hc => by
    refine ⟨ret_bool ?_, grown_drewN (hdone o) q⟩
    rw [HB.out, hc]
    exact decide_eq_decide.mpr (by rw [HT.out])
  have FIN : Hid _ := fin
  clear fin
  by_cases h1 : 1 ≤ d
  · by_cases h2 : d ≤ D
    · by_cases h3 : 0 ≤ h
      · by_cases h4 : h < 24
        · by_cases h5 : 0 ≤ n
          · go_enter Tryd.func30, Tryd.ntmps30
            go_wp2
            go_quiet ((go_at_call 17; refine Calls.quiet_of_same (HY _)))
            go_wp2
            go_ret
            exact FIN.out _ _ _ (by simp [h1, h2, h3, h4, h5])
          · have g : decide (0 ≤ n) = false := by simp; omega
            go_enter Tryd.func30, Tryd.ntmps30
            go_wp2
            go_quiet ((go_at_call 17; refine Calls.quiet_of_same (HY _)))
            go_wp2
            go_ret
            exact FIN.out _ _ _ (by simp; omega)
        · have g : decide (h < 24) = false := by simp; omega
          go_enter Tryd.func30, Tryd.ntmps30
          go_wp2
          go_quiet ((go_at_call 17; refine Calls.quiet_of_same (HY _)))
          go_wp2
          go_ret
          exact FIN.out _ _ _ (by simp; omega)
      · have g : decide (0 ≤ h) = false := by simp; omega
        go_enter Tryd.func30, Tryd.ntmps30
        go_wp2
        go_quiet ((go_at_call 17; refine Calls.quiet_of_same (HY _)))
        go_wp2
        go_ret
        exact FIN.out _ _ _ (by simp; omega)
    · have g : decide (d ≤ D) = false := by simp; omega
      go_enter Tryd.func30, Tryd.ntmps30
      go_wp2
      go_quiet ((go_at_call 17; refine Calls.quiet_of_same (HY _)))
      go_wp2
      go_ret
      exact FIN.out _ _ _ (by simp; omega)
  · have g : decide (1 ≤ d) = false := by simp; omega
    go_enter Tryd.func30, Tryd.ntmps30
    go_wp2
    go_quiet (fail)
    go_wp2
    go_ret
    exact FIN.out _ _ _ (by simp; omega)

/-- The instant of a minute by the calendar. -/
def inst (y m d h n : Int) : Int := (Civ.d2y y + Civ.cum y m + d - 1) * 1440 + h * 60 + n

set_option maxRecDepth 100000 in
set_option maxHeartbeats 400000 in
theorem to_bad (y m d h n k : Int) (hT : ¬ Thr y m d h n) (w : World) :
    Calls Tryd.prog 15 #[civ y m d h n k] w fun e w' => e = .returned (.tuple #[.int .i64 0, .int .i64 30]) ∧ w.grownBy w' none := by
  have HT := there_any y m d h n k
  rw [decide_eq_false hT] at HT
  clear hT
  go_enter Tryd.func15, Tryd.ntmps15
  go_wp2_with (go_at_call 30; go_must (refine (HT _).mono ?_); rintro e w1 ⟨rfl, hg⟩)
  go_ret2
  exact ⟨rfl, grown_more (World.grownBy_alloc w _ none) hg (by simp)⟩

set_option maxRecDepth 100000 in
set_option maxHeartbeats 400000 in
theorem to_ok (y m d h n k : Int) (hT : Thr y m d h n) (w : World) :
    Calls Tryd.prog 15 #[civ y m d h n k] w fun e w' => e = .returned (.tuple #[.int .i64 (inst y m d h n), .int .i64 0]) ∧ w.grownBy w' none := by
  have HT := there_any y m d h n k
  rw [decide_eq_true hT] at HT
  obtain ⟨t1, t2, t3, t4, t5, t6⟩ := hT
  obtain ⟨hy1, hy2, hm1, hm2⟩ := Civ.of_dys (y := y) (m := m) (by omega)
  rw [Civ.dys_in hy1 hy2 hm1 hm2] at t2
  have hat := (Civ.At.range (⟨hy1, hy2, hm1, hm2, Int.le_refl 1, by omega, rfl⟩ : Civ.At _ y m 1))
  have hdm := Civ.dim_bd y m
  have hd : d ≤ 31 := by omega
  have HM := toMonth_any y m hy1 hy2 hm1 hm2
  unfold inst
  obtain ⟨S, hS⟩ : ∃ S, S = Civ.d2y y + Civ.cum y m := ⟨_, rfl⟩
  rw [← hS] at HM hat ⊢
  clear hdm t2 hS
  obtain ⟨hs1, hs2⟩ : 0 ≤ S ∧ S < 157054 := by omega
  clear hat
  go_enter Tryd.func15, Tryd.ntmps15
  go_wp2_with (go_at_call 30; go_must (refine (HT _).mono ?_); rintro e w1 ⟨rfl, hg⟩)
  have c0 := cell_kept hg 0 _ rfl
  have c1 := cell_kept hg 1 _ rfl
  have c2 := cell_kept hg 2 _ rfl
  have c3 := cell_kept hg 3 _ rfl
  have c4 := cell_kept hg 4 _ rfl
  have HG := grown_more (World.grownBy_alloc w _ none) hg (by simp)
  clear hg
  go_quiet ((go_at_call 31; refine Calls.quiet_of_same (HM _)))
  go_wp2
  go_ret2
  exact ⟨congrArg (fun x => Ending.returned (.tuple #[.int .i64 x, .int .i64 0])) (by omega), grown_drewN HG _⟩
end Go.Proofs.YteiiapnpdfgoaaaDoor
