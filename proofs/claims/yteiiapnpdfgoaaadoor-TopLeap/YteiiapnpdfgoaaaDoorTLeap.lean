/- The 29th of February comes when it comes: the statement's walk. -/
import Derived.Test.YteiiapnpdfgoaaaDoorTLeapMath
import Derived.Test.YteiiapnpdfgoaaaDoorTShift
namespace Go.Proofs.YteiiapnpdfgoaaaDoor
open Go.RowKit
set_option linter.unusedVariables false

set_option maxRecDepth 100000 in
set_option maxHeartbeats 1600000 in
/-- No such year, or no such minute. -/
theorem leap_bad (y m : Int) (h : ¬ (1970 ≤ y ∧ y ≤ 2399) ∨ m < 0 ∨ 1439 < m) (w : World) (hG : Gd w) :
    Calls Tryd.prog 5 #[.int .i64 y, .int .i64 m] w fun r w' => r = .returned (.bool true) ∧ w.grownBy w' none := by
  have hnot : ∀ (x : Bool) (w : World), (Op.unary .not (.bool x)).run Tryd.prog w = .ok (.bool (!x)) w := fun _ _ => rfl
  have AW := awake7_any w hG
  by_cases hy : 1970 ≤ y ∧ y ≤ 2399
  · have hT : Thr y 1 1 0 0 := ⟨by omega, by rw [Civ.dys_in hy.1 hy.2 (by omega) (by omega)]; show (1 : Int) ≤ Civ.dim y 1; rw [show Civ.dim y 1 = 31 from rfl]; omega, by omega, by omega, by omega, by omega⟩
    have TO : ∀ w, Calls Tryd.prog 15 #[.agg #[.int .i64 y, .int .i64 1, .int .i64 1, .int .i64 0, .int .i64 0, .int .i64 0]] w fun e w' => e = .returned (.tuple #[.int .i64 (inst y 1 1 0 0), .int .i64 0]) ∧ w.grownBy w' none := fun w => to_ok y 1 1 0 0 0 hT w
    generalize inst y 1 1 0 0 = t at TO
    have h' : m < 0 ∨ 1439 < m := by rcases h with h | h; exact absurd hy h; exact h
    clear h hT hG
    rcases h' with h' | h'
    · go_enter Tryd.func5, Tryd.ntmps5
      go_wp2_with (first
        | (go_at_call 6; (with_reducible refine AW.mono ?_); rintro e w1 ⟨rfl, H1⟩)
        | (go_at_call 15; (with_reducible refine (TO _).mono ?_); rintro e w2 ⟨rfl, H2⟩))
      go_ret
      exact ⟨rfl, grown_more H1 H2 (by simp)⟩
    · have d : decide (m < 0) = false := decide_eq_false (by omega)
      go_enter Tryd.func5, Tryd.ntmps5
      go_wp2_with (first
        | (go_at_call 6; (with_reducible refine AW.mono ?_); rintro e w1 ⟨rfl, H1⟩)
        | (go_at_call 15; (with_reducible refine (TO _).mono ?_); rintro e w2 ⟨rfl, H2⟩))
      go_ret
      exact ⟨rfl, grown_more H1 H2 (by simp)⟩
  · have hT : ¬ Thr y 1 1 0 0 := fun hT => by
      obtain ⟨a1, a2, _⟩ := hT
      have := Civ.of_dys (y := y) (m := 1) (by omega)
      exact hy ⟨this.1, this.2.1⟩
    have TO : ∀ w, Calls Tryd.prog 15 #[.agg #[.int .i64 y, .int .i64 1, .int .i64 1, .int .i64 0, .int .i64 0, .int .i64 0]] w fun e w' => e = .returned (.tuple #[.int .i64 0, .int .i64 30]) ∧ w.grownBy w' none := fun w => to_bad y 1 1 0 0 0 hT w
    clear h hT hG
    go_enter Tryd.func5, Tryd.ntmps5
    go_wp2_with (first
      | (go_at_call 6; (with_reducible refine AW.mono ?_); rintro e w1 ⟨rfl, H1⟩)
      | (go_at_call 15; (with_reducible refine (TO _).mono ?_); rintro e w2 ⟨rfl, H2⟩))
    go_ret
    exact ⟨rfl, grown_more H1 H2 (by simp)⟩

set_option maxRecDepth 100000 in
set_option maxHeartbeats 3200000 in
theorem leap_ok (y m : Int) (h n : Nat) (hh : h < 24) (hn : n < 60) (hm : m = h * 60 + n) (hy1 : 1970 ≤ y) (hy2 : y ≤ 2399) (w : World) (hG : Gd w) :
    Calls Tryd.prog 5 #[.int .i64 y, .int .i64 m] w fun r w' => r = .returned (.bool true) ∧ w.grownBy w' none := by
  have hnot : ∀ (x : Bool) (w : World), (Op.unary .not (.bool x)).run Tryd.prog w = .ok (.bool (!x)) w := fun _ _ => rfl
  have AW := awake7_any w hG
  have hT : Thr y 1 1 0 0 := ⟨by omega, by rw [Civ.dys_in hy1 hy2 (by omega) (by omega)]; show (1 : Int) ≤ Civ.dim y 1; rw [show Civ.dim y 1 = 31 from rfl]; omega, by omega, by omega, by omega, by omega⟩
  have TO : ∀ w, Calls Tryd.prog 15 #[.agg #[.int .i64 y, .int .i64 1, .int .i64 1, .int .i64 0, .int .i64 0, .int .i64 0]] w fun e w' => e = .returned (.tuple #[.int .i64 (inst y 1 1 0 0), .int .i64 0]) ∧ w.grownBy w' none := fun w => to_ok y 1 1 0 0 0 hT w
  have hin : inst y 1 1 0 0 = Civ.d2y y * 1440 := by unfold inst; rw [Civ.cum_one]; omega
  rw [hin] at TO
  have f0 := Civ.d2y_mono hy1
  rw [Civ.d2y_first] at f0
  have f1 := Civ.d2y_mono (show y ≤ 2400 by omega)
  rw [Civ.d2y_last] at f1
  have PA : ∀ w, Gl w → Calls Tryd.prog 16 #[.string ⟨#[48, 32, 48, 32, 50, 57, 32, 50, 32, 42]⟩] w fun e w' => e = .returned (.tuple #[.agg #[.int .u64 1, .int .u64 1, .int .u64 536870912, .int .u64 4, .int .u64 127, .bool false, .bool true], .int .i64 0, .int .i64 0]) ∧ w.grownBy w' none := fun w hG => by
    have := Parse_any ⟨#[48, 32, 48, 32, 50, 57, 32, 50, 32, 42]⟩ w hG
    rw [show parV (Cro.parse (⟨#[48, 32, 48, 32, 50, 57, 32, 50, 32, 42]⟩ : ByteArray).data.toList) = .tuple #[.agg #[.int .u64 1, .int .u64 1, .int .u64 536870912, .int .u64 4, .int .u64 127, .bool false, .bool true], .int .i64 0, .int .i64 0] from by kernel_rfl] at this
    exact this
  have e60 : m / 60 = h := by omega
  have r60 : m % 60 = n := by omega
  have m0 : 0 ≤ m := by omega
  have m1 : m ≤ 1439 := by omega
  have DA : ∀ (x : Int) w, 1970 ≤ x → x ≤ 2399 → Calls Tryd.prog 17 #[.int .i64 x, .int .i64 2] w fun e w' => e = .returned (.int .i64 (Civ.dim x 2)) ∧ w' = w := fun x w h1 h2 => by
    have := days_any x 2 w
    rw [Civ.dys_in h1 h2 (by omega) (by omega)] at this
    exact this
  obtain ⟨P, hP⟩ := Due.has_P (cL h n) (zB 0)
  obtain ⟨A, hA⟩ : ∃ A : Nat, A = 2 ^ h := ⟨_, rfl⟩
  obtain ⟨B, hB⟩ : ∃ B : Nat, B = 2 ^ n := ⟨_, rfl⟩
  have hwA : IntKind.u64.wrap ((2 : Int) ^ h) = (A : Int) := by
    have h1 := (cL_ok_all h hh n hn).2
    have e : ((2 : Int) ^ h) = ((2 ^ h : Nat) : Int) := by simp
    rw [e, hA]
    exact IntWalk.u64_in _ ⟨by omega, by have : (cL h n).ho = 2 ^ h := rfl; omega⟩
  have hwB : IntKind.u64.wrap ((2 : Int) ^ n) = (B : Int) := by
    have h1 := (cL_ok_all h hh n hn).1
    have e : ((2 : Int) ^ n) = ((2 ^ n : Nat) : Int) := by simp
    rw [e, hB]
    exact IntWalk.u64_in _ ⟨by omega, by have : (cL h n).mi = 2 ^ n := rfl; omega⟩
  obtain ⟨r, hr⟩ : ∃ r, r = Due.nxV P (cL h n) (zB 0) (Civ.d2y y * 1440 - 1) := ⟨_, rfl⟩
  have NX : ∀ w, Gd w → Calls Tryd.prog 8 #[.agg #[.int .u64 B, .int .u64 A, .int .u64 536870912, .int .u64 4, .int .u64 127, .bool false, .bool true], .agg #[.int .i64 0, .int .i64 0, .int .i64 0, .int .i64 0, .int .i64 0, .int .i64 0, .int .i64 0, .int .i64 0, .int .i64 0, .int .i64 0], .int .i64 (Civ.d2y y * 1440 - 1)] w fun e w' => e = .returned (.tuple #[.int .i64 r.1, .int .i64 r.2]) ∧ w.grownBy w' none := fun w hG => by
    have := Next_any (cL h n) (cL_ok hh hn) (zB 0) P hP (Civ.d2y y * 1440 - 1) w hG
    rw [← hr] at this
    rw [hA, hB]
    exact this
  have HF : Hid (∀ x, y ≤ x → x ≤ 2399 → Civ.dim x 2 = 29 → (∀ z, y ≤ z → z < x → Civ.dim z 2 ≠ 29) → r = (leapT x h n, 0) ∧ x - y < 8 ∧ ∀ w, Calls Tryd.prog 15 #[.agg #[.int .i64 x, .int .i64 2, .int .i64 29, .int .i64 h, .int .i64 n, .int .i64 0]] w fun e w' => e = .returned (.tuple #[.int .i64 (leapT x h n), .int .i64 0]) ∧ w.grownBy w' none) := by
    intro x x1 x2 x3 x4
    refine ⟨by rw [hr]; exact feb_at hh hn hP hy1 x1 x2 x3 x4, feb_gap x4, fun w => ?_⟩
    have e : leapT x h n = inst x 2 29 h n := by unfold leapT inst; rw [cum_two]; omega
    rw [e]
    exact to_ok x 2 29 h n 0 ⟨by omega, by rw [Civ.dys_in (by omega) x2 (by omega) (by omega), x3]; omega, by omega, by omega, by omega, by omega⟩ w
  have HN : Hid ((∀ z, y ≤ z → z ≤ 2399 → Civ.dim z 2 ≠ 29) → r = (0, 60)) := fun h' => by rw [hr]; exact feb_no hh hn hP hy1 hy2 h'
  clear hT hin hm hr hP hA hB
  have t0 : 0 ≤ Civ.d2y y * 1440 := by omega
  have t1 : Civ.d2y y * 1440 ≤ 226157760 := by omega
  generalize Civ.d2y y * 1440 = T at *
  have hlow : decide (m < 0) = false := decide_eq_false (by omega)
  have hhigh : decide (1439 < m) = false := decide_eq_false (by omega)
  go_enter Tryd.func5, Tryd.ntmps5
  go_wp2_with (first
    | (go_at_call 6; (with_reducible refine AW.mono ?_); rintro e w1 ⟨rfl, H1⟩)
    | (go_at_call 15; (with_reducible refine (TO _).mono ?_); rintro e w2 ⟨rfl, H2⟩; have K2 := grown_more H1 H2 (by simp); have G2 := hG.kept K2)
    | (go_at_call 16; (with_reducible refine (PA _ G2.gl).mono ?_); rintro e w3 ⟨rfl, H3⟩; have K3 := grown_more K2 H3 (by simp)))
  have E60 : Hid (m / 60 = h) := e60
  have R60 : Hid (m % 60 = n) := r60
  clear e60 r60 hwA hwB
  have k4 := fun o => grown_alloc (r := none) (grown_refl w3 none) o
  go_loop [10] (fun v => ∃ x : Int, v = .int .i64 x ∧ y ≤ x ∧ x ≤ 2400 ∧ Hid (∀ z, y ≤ z → z < x → Civ.dim z 2 ≠ 29)) (fun v => (2400 - intOf v).toNat)
  case atStart => exact ⟨y, rfl, by omega, by omega, fun z h1 h2 => by omega⟩
  case round =>
    obtain ⟨x, rfl, x1, x2, HX⟩ := hrel
    by_cases hx : x ≤ 2399
    · have DX := fun w => DA x w (by omega) hx
      have d0 : decide (x ≤ 2399) = true := decide_eq_true hx
      by_cases hd : Civ.dim x 2 = 29
      · obtain ⟨e, hgap, T2⟩ := HF.out x x1 hx hd HX.out
        have d2 : decide (2399 < x) = false := decide_eq_false (by omega)
        have d8 : decide (x - y < 8) = true := decide_eq_true hgap
        subst e
        rw [hd] at DX
        clear hd HF HN HX DA
        generalize leapT x h n = u at *
        have e60 := E60.out
        have r60 := R60.out
        go_wp2_with (first
          | (go_at_call 17; (with_reducible refine (DX _).mono ?_); rintro e w4 ⟨rfl, rfl⟩)
          | (go_at_call 8; (with_reducible refine (NX _ (hG.kept (grown_more K3 (k4 _) (by simp)))).mono ?_); rintro e w5 ⟨rfl, H5⟩; have K5 := grown_more (grown_more K3 (k4 _) (by simp)) H5 (by simp))
          | (go_at_call 15; (with_reducible refine (T2 _).mono ?_); rintro e w6 ⟨rfl, H6⟩))
        go_ret
        exact ⟨rfl, grown_more K5 H6 (by simp)⟩
      · have hd' : (Civ.dim x 2 != 29) = true := by simpa using hd
        have HX' : Hid (∀ z, y ≤ z → z < x + 1 → Civ.dim z 2 ≠ 29) := fun z h1 h2 => by
          by_cases e : z = x
          · rw [e]; exact hd
          · exact HX.out z h1 (by omega)
        clear hd HF HN HX DA
        generalize Civ.dim x 2 = dd at *
        go_wp2_with (go_at_call 17; (with_reducible refine (DX _).mono ?_); rintro e w4 ⟨rfl, rfl⟩)
        go_round
        case rel => exact ⟨x + 1, rfl, by omega, by omega, HX'⟩
        case measure => simp [intOf]; omega
    · have e : x = 2400 := by omega
      have e2 := HN.out fun z h1 h2 => HX.out z h1 (by omega)
      have d1 : decide (x ≤ 2399) = false := decide_eq_false hx
      have d2 : decide (2399 < x) = true := decide_eq_true (by omega)
      subst e2
      clear HF HN HX DA e
      go_wp2_with (go_at_call 8; (with_reducible refine (NX _ (hG.kept (grown_more K3 (k4 _) (by simp)))).mono ?_); rintro e w5 ⟨rfl, H5⟩; have K5 := grown_more (grown_more K3 (k4 _) (by simp)) H5 (by simp))
      go_ret
      exact ⟨rfl, K5⟩

theorem topLeap.walk (W : World) (hX : Gd W) (y : Int) (hy : Lit.wf (.int .i64 y) = true) (m : Int) (hm : Lit.wf (.int .i64 m) = true) :
    Calls Tryd.prog 5 #[.int .i64 y, .int .i64 m] W fun e W' => e = .returned (.bool true) ∧ Below W.heap.size W W' := by
  refine Calls.mono (?_ : Calls Tryd.prog 5 #[.int .i64 y, .int .i64 m] W fun r w' => r = .returned (.bool true) ∧ W.grownBy w' none) fun e W' ⟨h1, h2⟩ => ⟨h1, grown_below h2⟩
  by_cases h : (1970 ≤ y ∧ y ≤ 2399) ∧ 0 ≤ m ∧ m ≤ 1439
  · exact leap_ok y m (m / 60).toNat (m % 60).toNat (by omega) (by omega) (by omega) h.1.1 h.1.2 W hX
  · exact leap_bad y m (by omega) W hX
end Go.Proofs.YteiiapnpdfgoaaaDoor
