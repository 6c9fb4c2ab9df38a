/- What the document's own 'least', 'Most', 'Full' answer. -/
import Derived.Test.YtegekjgjabckgaaGreatDoorKCheck
namespace Go.Proofs.YtegekjgjabckgaaGreatDoor
open Go.RowKit
set_option linter.unusedVariables false

set_option maxRecDepth 100000 in
theorem rLeast (j : Nat) (hj : j < 5) (w : World) : Calls Tryz.prog 48 #[.int .i64 j] w fun e w' => e = .returned (.int .i64 (Cro.sp j).lo) ∧ w' = w := by
  match j, hj with
  | 0, _ | 1, _ | 2, _ | 3, _ | 4, _ =>
    go_enter Tryz.func48, Tryz.ntmps48
    go_wp2
    go_ret
    exact ⟨rfl, rfl⟩
set_option maxRecDepth 100000 in
theorem rMost (j : Nat) (hj : j < 5) (w : World) : Calls Tryz.prog 49 #[.int .i64 j] w fun e w' => e = .returned (.int .i64 (Cro.sp j).hi) ∧ w' = w := by
  match j, hj with
  | 0, _ | 1, _ | 2, _ | 3, _ | 4, _ =>
    go_enter Tryz.func49, Tryz.ntmps49
    go_wp2
    go_ret
    exact ⟨rfl, rfl⟩
theorem rem_two (s n : Nat) : (((s : Int) / 2 ^ n).tmod 2 == 1) = s.testBit n := by
  have e : ((s : Int) / 2 ^ n) = ((s / 2 ^ n : Nat) : Int) := by simp
  rw [e, Nat.testBit_eq_decide_div_mod_eq, Bool.eq_iff_iff]
  generalize s / 2 ^ n = q
  rw [Int.tmod_eq_emod_of_nonneg (by omega)]
  simp
  omega
set_option maxRecDepth 100000 in
theorem rHas (s n : Nat) (hs : s < 18446744073709551616) (hn : n ≤ 64) (w : World) :
    Calls Tryz.prog 46 #[.int .u64 s, .int .i64 n] w fun e w' => e = .returned (.bool (s.testBit n)) ∧ w' = w := by
  go_enter Tryz.func46, Tryz.ntmps46
  go_wp2
  go_ret
  exact ⟨ret_bool (rem_two s n), rfl⟩
theorem full_step : ∀ j, j < 5 → ∀ n, n < 60 → (Cro.sp j).lo ≤ n → n ≤ (Cro.sp j).last → (2 ^ n - 2 ^ (Cro.sp j).lo) ||| 2 ^ n = 2 ^ (n + 1) - 2 ^ (Cro.sp j).lo := by decide +kernel
theorem sp_facts : ∀ j, j < 5 → (Cro.sp j).hi ≤ 59 ∧ (Cro.sp j).lo ≤ (Cro.sp j).last ∧ ((j ≠ 4 ∧ (Cro.sp j).last = (Cro.sp j).hi) ∨ (j = 4 ∧ (Cro.sp j).hi = 7 ∧ (Cro.sp j).last = 6)) := by decide
set_option maxRecDepth 100000 in
set_option maxHeartbeats 800000 in
theorem rFull (j : Nat) (hj : j < 5) (w : World) : Calls Tryz.prog 29 #[.int .i64 j] w fun e w' => e = .returned (.int .u64 ((Cro.sp j).full : Nat)) ∧ w' = w := by
  have L := rLeast j hj
  have M := rMost j hj
  obtain ⟨f1, f2, f3⟩ := sp_facts j hj
  have ST : Hid (∀ n, n < 60 → (Cro.sp j).lo ≤ n → n ≤ (Cro.sp j).last → (2 ^ n - 2 ^ (Cro.sp j).lo) ||| 2 ^ n = 2 ^ (n + 1) - 2 ^ (Cro.sp j).lo) := full_step j hj
  have HF : Hid ((Cro.sp j).full = 2 ^ ((Cro.sp j).last + 1) - 2 ^ (Cro.sp j).lo) := rfl
  generalize (Cro.sp j).full = U at HF ⊢
  generalize (Cro.sp j).lo = lo at *
  generalize (Cro.sp j).hi = hi at *
  generalize (Cro.sp j).last = la at *
  go_enter Tryz.func29, Tryz.ntmps29
  go_wp2_with (go_at_call 48; go_must (refine (L _).mono ?_); rintro e w1 ⟨rfl, rfl⟩)
  go_loop [3, 4] (fun s i => ∃ n v : Nat, i = .int .i64 n ∧ s = .int .u64 v ∧ lo ≤ n ∧ n ≤ hi + 1 ∧ v < 18446744073709551616 ∧ Hid (v = 2 ^ (if n ≤ la then n else la + 1) - 2 ^ lo)) (fun _ i => (hi + 1 - (intOf i).toNat))
  case atStart => exact ⟨lo, 0, rfl, rfl, by omega, by omega, by omega, by show _ = _; rw [if_pos f2]; omega⟩
  case round =>
    obtain ⟨n, v, rfl, rfl, h1, h2, h3, HV⟩ := hrel
    by_cases hle : n ≤ hi
    · by_cases hskip : n ≤ la
      · have hv := HV.out
        rw [if_pos hskip] at hv
        have hs := ST.out n (by omega) h1 hskip
        rw [← hv] at hs
        have hO : Hid (bits BinOp.or IntKind.u64 (v : Int) (IntKind.u64.wrap (2 ^ n)) = ((v ||| 2 ^ n : Nat) : Int)) := or_bit v n h3 (by omega)
        have hlt : v ||| 2 ^ n < 2 ^ 64 := Nat.or_lt_two_pow (n := 64) h3 (Nat.pow_lt_pow_right (by omega) (by omega))
        have HLT : Hid (v ||| 2 ^ n < 18446744073709551616) := hlt
        have HV' : Hid (v ||| 2 ^ n = 2 ^ (if n + 1 ≤ la then n + 1 else la + 1) - 2 ^ lo) := by
          show _ = _
          rw [hs]
          split
          · rfl
          · rw [show n = la by omega]
        clear hs hv hlt HV
        rcases f3 with ⟨g1, g2⟩ | ⟨g1, g2, g3⟩
        · have z : ((j : Int) != 4) = true := by simp; omega
          go_wp2_with (go_at_call 49; go_must (refine (M _).mono ?_); rintro e w1 ⟨rfl, rfl⟩)
          go_round
          case rel => exact ⟨n + 1, v ||| 2 ^ n, by go_num, by rw [hO.out], by omega, by omega, HLT.out, HV'⟩
          case measure => simp [intOf]; omega
        · have z : ((j : Int) != 4) = false := by simp; omega
          have z2 : ((n : Int) != 7) = true := by simp; omega
          clear g1
          go_wp2_with (go_at_call 49; go_must (refine (M _).mono ?_); rintro e w1 ⟨rfl, rfl⟩)
          go_round
          case rel => exact ⟨n + 1, v ||| 2 ^ n, by go_num, by rw [hO.out], by omega, by omega, HLT.out, HV'⟩
          case measure => simp [intOf]; omega
      · rcases f3 with ⟨g1, g2⟩ | ⟨g1, g2, g3⟩
        · omega
        · have z : ((j : Int) != 4) = false := by simp; omega
          have z2 : ((n : Int) != 7) = false := by simp; omega
          clear g1
          have HV' : Hid (v = 2 ^ (if n + 1 ≤ la then n + 1 else la + 1) - 2 ^ lo) := by
            have := HV.out
            rw [if_neg hskip] at this
            show _ = _
            rw [if_neg (by omega)]
            exact this
          clear HV
          go_wp2_with (go_at_call 49; go_must (refine (M _).mono ?_); rintro e w1 ⟨rfl, rfl⟩)
          go_round
          case rel => exact ⟨n + 1, v, by go_num, rfl, by omega, by omega, h3, HV'⟩
          case measure => simp [intOf]; omega
    · have hv : v = U := by
        have := HV.out
        rw [if_neg (by omega)] at this
        rw [this, HF.out]
      clear HV
      go_wp2_with (go_at_call 49; go_must (refine (M _).mono ?_); rintro e w1 ⟨rfl, rfl⟩)
      go_ret
      exact ⟨by first | rfl | rw [hv], rfl⟩
end Go.Proofs.YtegekjgjabckgaaGreatDoor
