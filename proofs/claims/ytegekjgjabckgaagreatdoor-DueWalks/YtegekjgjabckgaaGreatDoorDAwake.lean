/- What the statements' first look, 'awake', answers. -/
import Derived.Test.YtegekjgjabckgaaGreatDoorDIs
import Derived.Test.YtegekjgjabckgaaGreatDoorDBetween
import Derived.Test.YtegekjgjabckgaaGreatDoorDRef
namespace Go.Proofs.YtegekjgjabckgaaGreatDoor
open Go.RowKit
set_option linter.unusedVariables false

/-- Noon of each day. -/
def cN : Cro.C := ⟨1, 4096, 4294967294, 8190, 127, true, true⟩
theorem cN_ok : cN.ok := ⟨by decide, by decide, by decide, by decide, by decide⟩
theorem cN_right : cN.right := by decide +kernel
def zB (b : Int) : Zon.Z := ⟨b, 0, ⟨0, 0, 0, 0⟩, ⟨0, 0, 0, 0⟩⟩
theorem zB_at (b t : Int) : (zB b).at t = b := Zon.at_zero rfl t
theorem noon_bits : ∀ n, n < 60 → Nat.testBit 1 n = decide (n = 0) := by decide +kernel
theorem noon_hour : ∀ n, n < 24 → Nat.testBit 4096 n = decide (n = 12) := by decide +kernel
theorem noon_month : ∀ n, n < 13 → 1 ≤ n → Nat.testBit 8190 n = true := by decide +kernel
theorem noon_day : ∀ n, n < 32 → 1 ≤ n → Nat.testBit 4294967294 n = true := by decide +kernel
theorem noon_week : ∀ n, n < 7 → Nat.testBit 127 n = true := by decide +kernel
theorem noon_fit (L : Int) (h0 : 0 ≤ L) (h1 : L ≤ 226157759) : Due.Fit cN L ↔ L % 1440 = 720 := by
  obtain ⟨y, m, d, hA⟩ := Civ.At.is (n := L / 1440) (by omega) (by omega)
  rw [Due.fit_iff cN_right hA]
  have m1 := hA.m1
  have m2 := hA.m2
  have d1 := hA.d1
  have d2 := hA.d2
  have d3 := Civ.dim_bd y m
  have hw : (Civ.wk (L / 1440)).toNat < 7 := by unfold Civ.wk; omega
  have hd : cN.day m.toNat d.toNat (Civ.wk (L / 1440)).toNat = true := by
    unfold Cro.C.day cN
    simp only
    rw [noon_month _ (by omega) (by omega), noon_day _ (by omega) (by omega), noon_week _ hw]
    rfl
  rw [hd, show cN.mi = 1 from rfl, show cN.ho = 4096 from rfl, noon_bits _ (by omega), noon_hour _ (by omega)]
  simp
  omega
theorem noon_P (b : Int) (P : Nat → Bool) (hP : Due.IsP cN (zB b) P) (t : Nat) (h0 : 0 ≤ (t : Int) + b) (h1 : (t : Int) + b ≤ 226157759) : P t = decide (((t : Int) + b) % 1440 = 720) := by
  rw [Bool.eq_iff_iff, hP t, zB_at, noon_fit _ h0 h1, decide_eq_true_iff]
theorem noon_next (P : Nat → Bool) (hP : Due.IsP cN (zB 60) P) : Due.nxV P cN (zB 60) (-1) = (660, 0) := by
  unfold Due.nxV
  rw [if_neg (fun h => h cN_right), if_neg (fun h => h (by decide)), if_neg (by decide)]
  have : Due.nx P 226157759 ((-1 : Int) + 1).toNat = some 660 := Due.nx_is (by decide) (by decide) (by rw [noon_P 60 P hP 660 (by decide) (by decide)]; decide) (fun u h1 h2 => by rw [noon_P 60 P hP u (by omega) (by omega)]; simp; omega)
  rw [this]
  rfl
theorem zero_next (P : Nat → Bool) (z : Zon.Z) (a : Int) : Due.nxV P Cro.zero z a = (0, 1) := by
  unfold Due.nxV
  rw [if_pos (by decide +kernel)]
theorem noon_between (P : Nat → Bool) (hP : Due.IsP cN (zB 0) P) : Due.bw P 3001 9 1 = [720, 2160] := by
  have n1 : Due.nxt P (3001 - 1) 1 = some 720 := Due.nxt_is (by decide) (by decide) (by rw [noon_P 0 P hP 720 (by decide) (by decide)]; decide) (fun u h1 h2 => by rw [noon_P 0 P hP u (by omega) (by omega)]; simp; omega)
  have n2 : Due.nxt P (3001 - (720 + 1)) (720 + 1) = some 2160 := Due.nxt_is (by decide) (by decide) (by rw [noon_P 0 P hP 2160 (by decide) (by decide)]; decide) (fun u h1 h2 => by rw [noon_P 0 P hP u (by omega) (by omega)]; simp; omega)
  have n3 : Due.nxt P (3001 - (2160 + 1)) (2160 + 1) = none := Due.nxt_no (fun u h1 h2 => by rw [noon_P 0 P hP u (by omega) (by omega)]; simp; omega)
  rw [bw_some n1 (by decide), bw_some n2 (by decide), bw_none n3]
theorem noon_is (P : Nat → Bool) (hP : Due.IsP cN (zB 0) P) : Due.isV P (zB 0) 720 = true := by
  unfold Due.isV
  rw [decide_eq_true (show (zB 0).ok by decide), decide_eq_true (show (0 : Int) ≤ 720 ∧ (720 : Int) ≤ 226157759 by decide)]
  show (true && true && P 720) = true
  rw [noon_P 0 P hP 720 (by decide) (by decide)]
  decide

set_option maxRecDepth 100000 in
set_option maxHeartbeats 800000 in
theorem noon_any (w : World) : Calls Tryz.prog 16 #[] w fun e w' => e = .returned (.agg #[.int .u64 1, .int .u64 4096, .int .u64 4294967294, .int .u64 8190, .int .u64 127, .bool true, .bool true]) ∧ w.grownBy w' none := by
  have F2 : ∀ w, Calls Tryz.prog 29 #[.int .i64 2] w fun e w' => e = .returned (.int .u64 4294967294) ∧ w' = w := fun w => rFull 2 (by decide) w
  have F3 : ∀ w, Calls Tryz.prog 29 #[.int .i64 3] w fun e w' => e = .returned (.int .u64 8190) ∧ w' = w := fun w => rFull 3 (by decide) w
  have F4 : ∀ w, Calls Tryz.prog 29 #[.int .i64 4] w fun e w' => e = .returned (.int .u64 127) ∧ w' = w := fun w => rFull 4 (by decide) w
  go_enter Tryz.func16, Tryz.ntmps16
  go_wp2_with (first
    | (go_at_call 29; with_reducible refine (F2 _).mono ?_; rintro e w1 ⟨rfl, rfl⟩)
    | (go_at_call 29; with_reducible refine (F3 _).mono ?_; rintro e w1 ⟨rfl, rfl⟩)
    | (go_at_call 29; with_reducible refine (F4 _).mono ?_; rintro e w1 ⟨rfl, rfl⟩))
  refine bodyPost_ret (v := .agg #[.int .u64 1, .int .u64 4096, .int .u64 4294967294, .int .u64 8190, .int .u64 127, .bool true, .bool true]) (by simp [results, Tryz.results16, go_sem]) rfl ?_
  exact ⟨rfl, World.grownBy_alloc _ _ none⟩

set_option maxRecDepth 100000 in
set_option maxHeartbeats 1600000 in
theorem awake_any (w : World) (hG : Gd w) : Calls Tryz.prog 9 #[] w fun e w' => e = .returned (.bool true) ∧ w.grownBy w' none := by
  obtain ⟨P1, h1⟩ := Due.has_P cN (zB 60)
  obtain ⟨P2, h2⟩ := Due.has_P Cro.zero (zB 0)
  obtain ⟨P3, h3⟩ := Due.has_P cN (zB 0)
  have zok : Cro.zero.ok := ⟨by decide, by decide, by decide, by decide, by decide⟩
  have NO := noon_any
  have N1 : ∀ w, Gd w → Calls Tryz.prog 10 #[.agg #[.int .u64 1, .int .u64 4096, .int .u64 4294967294, .int .u64 8190, .int .u64 127, .bool true, .bool true], .agg #[.int .i64 60, .int .i64 0, .int .i64 0, .int .i64 0, .int .i64 0, .int .i64 0, .int .i64 0, .int .i64 0, .int .i64 0, .int .i64 0], .int .i64 (-1)] w fun e w' => e = .returned (.tuple #[.int .i64 660, .int .i64 0]) ∧ w.grownBy w' none := fun w hG => by
    have := Next_any cN cN_ok (zB 60) P1 h1 (-1) w hG
    rw [noon_next P1 h1] at this
    exact this
  have N2 : ∀ w, Gd w → Calls Tryz.prog 10 #[.agg #[.int .u64 0, .int .u64 0, .int .u64 0, .int .u64 0, .int .u64 0, .bool false, .bool false], .agg #[.int .i64 0, .int .i64 0, .int .i64 0, .int .i64 0, .int .i64 0, .int .i64 0, .int .i64 0, .int .i64 0, .int .i64 0, .int .i64 0], .int .i64 0] w fun e w' => e = .returned (.tuple #[.int .i64 0, .int .i64 1]) ∧ w.grownBy w' none := fun w hG => by
    have := Next_any Cro.zero zok (zB 0) P2 h2 0 w hG
    rw [zero_next P2] at this
    exact this
  have B1 : ∀ w, Gd w → Calls Tryz.prog 14 #[.agg #[.int .u64 1, .int .u64 4096, .int .u64 4294967294, .int .u64 8190, .int .u64 127, .bool true, .bool true], .agg #[.int .i64 0, .int .i64 0, .int .i64 0, .int .i64 0, .int .i64 0, .int .i64 0, .int .i64 0, .int .i64 0, .int .i64 0, .int .i64 0], .int .i64 0, .int .i64 3000, .int .i64 9] w fun e w' => ∃ g cap, e = .returned (.tuple #[.slice (some ⟨g, 0, none⟩) 2 cap, .int .i64 0]) ∧ w'.cell? ⟨g, 1, none⟩ = some (.int .i64 2160) ∧ w.grownBy w' none := fun w hG => by
    refine Calls.mono (bt_ok cN cN_ok cN_right (zB 0) (by decide) P3 h3 1 3001 9 (by decide) (by decide) (by decide) w hG) ?_
    rintro e w' ⟨v, he, hO, hg⟩
    rw [noon_between P3 h3] at hO
    rcases hO.row with ⟨h, _⟩ | ⟨g, cap, rfl, _, hc⟩
    · cases h
    · exact ⟨g, cap, he, hc 1 (by decide), hg⟩
  have I1 : ∀ w, Gl w → Calls Tryz.prog 12 #[.agg #[.int .u64 1, .int .u64 4096, .int .u64 4294967294, .int .u64 8190, .int .u64 127, .bool true, .bool true], .agg #[.int .i64 0, .int .i64 0, .int .i64 0, .int .i64 0, .int .i64 0, .int .i64 0, .int .i64 0, .int .i64 0, .int .i64 0, .int .i64 0], .int .i64 720] w fun e w' => e = .returned (.bool true) ∧ w.grownBy w' none := fun w hG => by
    have := Is_any cN cN_ok (zB 0) P3 h3 720 w hG
    rw [noon_is P3 h3] at this
    exact this
  clear h1 h2 h3
  go_enter Tryz.func9, Tryz.ntmps9
  go_wp2_with (first
    | (go_at_call 10; with_reducible refine (N1 _ G1).mono ?_; rintro e w2 ⟨rfl, hg2⟩; have k2 := grown_more k1 hg2 (by simp); have G2 := hG.kept k2)
    | (go_at_call 10; with_reducible refine (N2 _ G2).mono ?_; rintro e w3 ⟨rfl, hg3⟩; have k3 := grown_more k2 hg3 (by simp))
    | (go_at_call 14; with_reducible refine (B1 _ G4).mono ?_; rintro e w5 ⟨g, cap, rfl, hc5, hg5⟩; have k5 := grown_more k4 hg5 (by simp))
    | (go_at_call 12; with_reducible refine (I1 _ G6.gl).mono ?_; rintro e w7 ⟨rfl, hg7⟩; have k7 := grown_more k6 hg7 (by simp))
    | (go_at_call 16; (with_reducible refine (NO _).mono ?_); rintro e w6 ⟨rfl, hg6⟩; have k6 := grown_more k5 hg6 (by simp); have G6 := hG.kept k6)
    | (go_at_call 16; (with_reducible refine (NO _).mono ?_); rintro e w4 ⟨rfl, hg4⟩; have k4 := grown_more k3 hg4 (by simp); have G4 := hG.kept k4)
    | (go_at_call 16; (with_reducible refine (NO _).mono ?_); rintro e w1 ⟨rfl, hg1⟩; have k1 := hg1; have G1 := hG.kept k1))
  go_ret
  exact ⟨rfl, k7⟩
end Go.Proofs.YtegekjgjabckgaaGreatDoor
