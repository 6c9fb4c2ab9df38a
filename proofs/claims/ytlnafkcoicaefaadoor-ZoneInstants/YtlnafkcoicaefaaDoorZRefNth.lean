/- What the document's own 'Nth' answers, by counting. -/
import Derived.Test.YtlnafkcoicaefaaDoorVRefTo
import Derived.Test.YtlnafkcoicaefaaDoorZNthMath
namespace Go.Proofs.YtlnafkcoicaefaaDoor
open Go.RowKit

/-- The day that counting has come to, behind s of them. -/
def Civ.cnt (F k s : Int) : Int := if k = 5 then (if s = 0 then 0 else F + 7 * (s - 1)) else if s < k then 0 else F + 7 * (k - 1)
theorem Civ.cnt_hit {F k s : Int} (h : (s + 1 == k) = true ∨ (k == 5) = true) (h0 : 0 ≤ s) : F + 7 * s = Civ.cnt F k (s + 1) := by
  unfold Civ.cnt
  simp at h
  split
  · rw [if_neg (by omega)]; omega
  · rw [if_neg (by omega)]; omega
theorem Civ.cnt_miss {F k s : Int} (h : (s + 1 == k) = false) (h' : (k == 5) = false) : Civ.cnt F k s = Civ.cnt F k (s + 1) := by
  unfold Civ.cnt
  simp at h h'
  rw [if_neg h', if_neg h']
  split
  · rw [if_pos (by omega)]
  · rw [if_neg (by omega)]
theorem Civ.cnt_zero {F k : Int} (h : 1 ≤ k) : Civ.cnt F k 0 = 0 := by
  unfold Civ.cnt
  split
  · simp
  · rw [if_pos (by omega)]
theorem Civ.cnt_end {y m k d s : Int} (hm : Civ.dys y m ≠ 0) (k1 : 1 ≤ k) (k2 : k ≤ 5) (d1 : 0 ≤ d) (d2 : d ≤ 6) (s1 : Civ.fst y m d + 7 * (s - 1) ≤ Civ.dys y m) (s2 : Civ.dys y m < Civ.fst y m d + 7 * s) :
    Civ.cnt (Civ.fst y m d) k s = Civ.nthOf y m k d := by
  have hf := Civ.fst_bd y m d
  have hd : 28 ≤ Civ.dys y m := by
    obtain ⟨a, b, c, e⟩ := Civ.of_dys (y := y) (m := m) (by have := Civ.dys_bd y m; omega)
    rw [Civ.dys_in a b c e]
    exact (Civ.dim_bd y m).1
  have hd2 := (Civ.dys_bd y m).2
  unfold Civ.cnt
  by_cases h5 : k = 5
  · subst h5
    rw [Civ.nth_five hm d1 d2, if_pos rfl, if_neg (by omega)]
    split <;> omega
  · rw [Civ.nth_four hm k1 (by omega) d1 d2, if_neg h5, if_neg (by omega)]
theorem Civ.hit_of {y m d s j : Int} (d1 : 0 ≤ d) (d2 : d ≤ 6) (s1 : Civ.fst y m d + 7 * (s - 1) < j) (s2 : j ≤ Civ.fst y m d + 7 * s) :
    ((Civ.wk (Civ.d2y y + Civ.cum y m) + j - 1) % 7 == d) = (j == Civ.fst y m d + 7 * s) := by
  unfold Civ.fst at *
  have : 0 ≤ Civ.wk (Civ.d2y y + Civ.cum y m) ∧ Civ.wk (Civ.d2y y + Civ.cum y m) < 7 := by unfold Civ.wk; omega
  rw [Bool.eq_iff_iff]
  simp only [beq_iff_eq]
  omega

/-- The first day's two calls. -/
theorem rNth_calls {y m : Int} (hm : Civ.dys y m ≠ 0) :
    ∃ t, (∀ w, Calls Tryd.prog 24 #[civ y m 1 0 0 0] w fun e w' => e = .returned (.tuple #[.int .i64 t, .int .i64 0]) ∧ w.grownBy w' none) ∧
      ∀ w, Calls Tryd.prog 39 #[.int .i64 t] w fun e w' => e = .returned (.tuple #[civ y m 1 0 0 (Civ.wk (Civ.d2y y + Civ.cum y m)), .int .i64 0]) ∧ w.grownBy w' none := by
  obtain ⟨a, b, c, e⟩ := Civ.of_dys (y := y) (m := m) (by have := Civ.dys_bd y m; omega)
  have hd := Civ.dys_in a b c e
  have hdm := Civ.dim_bd y m
  have hA : Civ.At (Civ.d2y y + Civ.cum y m) y m 1 := ⟨a, b, c, e, by omega, by omega, by omega⟩
  refine ⟨inst y m 1 0 0, fun w => rTo_ok _ _ _ _ _ _ ⟨by omega, by omega, by omega, by omega, by omega, by omega⟩ w, fun w => ?_⟩
  have ht : inst y m 1 0 0 = (Civ.d2y y + Civ.cum y m) * 1440 := by unfold inst; omega
  have h1 : inst y m 1 0 0 / 1440 = Civ.d2y y + Civ.cum y m := by omega
  have h := rFrom_at (t := inst y m 1 0 0) (by rw [h1]; exact hA) w
  rw [h1, show inst y m 1 0 0 % 1440 / 60 = 0 by omega, show inst y m 1 0 0 % 60 = 0 by omega] at h
  exact h

set_option maxRecDepth 100000 in
set_option maxHeartbeats 800000 in
theorem rNth_any (y m k d : Int) (hk : -9223372036854775808 ≤ k ∧ k ≤ 9223372036854775807) (hd : -9223372036854775808 ≤ d ∧ d ≤ 9223372036854775807) (w : World) :
    Calls Tryd.prog 46 #[.int .i64 y, .int .i64 m, .int .i64 k, .int .i64 d] w fun e w' => e = .returned (.int .i64 (Civ.nthOf y m k d)) ∧ w.grownBy w' none := by
  have HY := rDays_any y m
  have hD := Civ.dys_bd y m
  by_cases h : Civ.dys y m = 0 ∨ k < 1 ∨ 5 < k ∨ d < 0 ∨ 6 < d
  · have e : Civ.nthOf y m k d = 0 := by unfold Civ.nthOf; rw [if_pos h]
    rw [e]
    obtain ⟨D, hD'⟩ : ∃ D, D = Civ.dys y m := ⟨_, rfl⟩
    rw [← hD'] at HY hD h
    clear hD'
    have H : Hid (D = 0 ∨ k < 1 ∨ 5 < k ∨ d < 0 ∨ 6 < d) := h
    clear h
    go_enter Tryd.func46, Tryd.ntmps46
    go_wp2_with (go_at_call 37; go_must (refine (HY _).mono ?_); rintro e w1 ⟨rfl, hg1⟩)
    all_goals first
      | (go_ret; exact ⟨rfl, hg1⟩)
      | (exfalso; have := H.out; go_light; simp only [beq_eq_false_iff_ne, ne_eq] at *; omega)
  · have hm : Civ.dys y m ≠ 0 := by omega
    have k1 : 1 ≤ k := by omega
    have k2 : k ≤ 5 := by omega
    have d1 : 0 ≤ d := by omega
    have d2 : d ≤ 6 := by omega
    have hf := Civ.fst_bd y m d
    obtain ⟨t, C1, C2⟩ := rNth_calls hm
    have HIT := fun j s => Civ.hit_of (y := y) (m := m) (d := d) (s := s) (j := j) d1 d2
    have END := fun s => Civ.cnt_end (y := y) (m := m) (k := k) (d := d) (s := s) hm k1 k2 d1 d2
    have hwk : 0 ≤ Civ.wk (Civ.d2y y + Civ.cum y m) ∧ Civ.wk (Civ.d2y y + Civ.cum y m) < 7 := by unfold Civ.wk; omega
    obtain ⟨R, hR⟩ : ∃ R, R = Civ.nthOf y m k d := ⟨_, rfl⟩
    obtain ⟨F, hF⟩ : ∃ F, F = Civ.fst y m d := ⟨_, rfl⟩
    obtain ⟨D, hD'⟩ : ∃ D, D = Civ.dys y m := ⟨_, rfl⟩
    obtain ⟨f, hf'⟩ : ∃ f, f = Civ.wk (Civ.d2y y + Civ.cum y m) := ⟨_, rfl⟩
    rw [← hR] at END ⊢
    rw [← hF] at END HIT hf
    rw [← hD'] at END HY hD
    rw [← hf'] at HIT C2 hwk
    have HI : Hid _ := HIT
    have HEND : Hid _ := END
    have hD0 : (D == 0) = false := by simp; omega
    have g1 : decide (k < 1) = false := decide_eq_false (by omega)
    have g2 : decide (5 < k) = false := decide_eq_false (by omega)
    have g3 : decide (d < 0) = false := decide_eq_false (by omega)
    have g4 : decide (6 < d) = false := decide_eq_false (by omega)
    clear hR hF hD' hf' HIT END h hm hk hd
    go_enter Tryd.func46, Tryd.ntmps46
    go_wp2_with (first
      | (go_at_call 37; go_must (refine (HY _).mono ?_); rintro e w1 ⟨rfl, hg1⟩)
      | (go_at_call 24; go_must (refine (C1 _).mono ?_); rintro e w2 ⟨rfl, hg2⟩)
      | (go_at_call 39; go_must (refine (C2 _).mono ?_); rintro e w3 ⟨rfl, hg3⟩))
    have HG := grown_alloc (grown_more (grown_more hg1 hg2 (by simp)) hg3 (by simp)) (.cells #[.int .i64 y, .int .i64 m, .int .i64 1, .int .i64 0, .int .i64 0, .int .i64 f] 37)
    clear HY C1 C2 hg1 hg2 hg3
    go_loop [14, 15, 16] (fun s a i => ∃ S j : Int, 1 ≤ j ∧ j ≤ D + 1 ∧ 0 ≤ S ∧ S ≤ j ∧ i = .int .i64 j ∧ s = .int .i64 S ∧ a = .int .i64 (Civ.cnt F k S) ∧ Hid (F + 7 * (S - 1) < j ∧ j ≤ F + 7 * S)) (fun _ _ i => (40 - intOf i).toNat)
    case atStart => exact ⟨0, 1, by omega, by omega, by omega, by omega, rfl, rfl, val_int (Civ.cnt_zero k1).symm, ⟨by omega, by omega⟩⟩
    case round =>
      obtain ⟨S, j, j1, j2, s1, s2, rfl, rfl, rfl, HB⟩ := hrel
      by_cases hlt : j ≤ D
      · have hit := HI.out j S HB.out.1 HB.out.2
        by_cases hj : j = F + 7 * S
        · have hmt : ((f + j - 1) % 7 == d) = true := by rw [hit]; simpa using hj
          have HJ : Hid (j = F + 7 * S) := hj
          clear hit hj
          go_wp2
          all_goals
            go_round
            case rel =>
              refine ⟨S + 1, j + 1, by omega, by omega, by omega, by omega, by go_num, by go_num, val_int ?_, ⟨by have := HJ.out; omega, by have := HJ.out; omega⟩⟩
              first
                | (rw [← Civ.cnt_hit (F := F) (by simp_all) s1]; exact HJ.out)
                | (exact Civ.cnt_miss (by simp_all) (by simp_all))
            case measure => simp [intOf]; omega
        · have hmt : ((f + j - 1) % 7 == d) = false := by rw [hit]; simpa using hj
          have HJ : Hid (¬ j = F + 7 * S) := hj
          clear hit hj
          go_wp2
          go_round
          case rel => exact ⟨S, j + 1, by omega, by omega, by omega, by omega, by go_num, by go_num, rfl, ⟨by have := HB.out; omega, by have := HB.out; have := HJ.out; omega⟩⟩
          case measure => simp [intOf]; omega
      · obtain rfl : j = D + 1 := by omega
        have hc := HEND.out S (by have := HB.out; omega) (by have := HB.out; omega)
        rw [hc]
        clear hc
        go_wp2
        go_ret
        exact ⟨rfl, HG⟩
end Go.Proofs.YtlnafkcoicaefaaDoor
