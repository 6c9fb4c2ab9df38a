/- Names: the program's and the reference's. -/
import Derived.Test.YtlolhdijadhklaaABase
namespace Go.Proofs.Ytlolhdijadhklaa
open Go.RowKit Atl
set_option linter.unusedVariables false
set_option maxRecDepth 10000

def isK (k : Int) : Bool := decide (97 ≤ k) && decide (k ≤ 122) || decide (48 ≤ k) && decide (k ≤ 57) || k == 45 || k == 46
theorem inN_K (c : UInt8) : inN c = isK (c.toNat : Int) := by
  unfold inN isK
  rw [Bool.eq_iff_iff]
  simp only [Bool.or_eq_true, Bool.and_eq_true, decide_eq_true_eq, beq_iff_eq]
  omega
set_option maxRecDepth 100000 in
set_option maxHeartbeats 1600000 in
theorem nb_any (k : Int) (h0 : 0 ≤ k) (h1 : k < 256) (w : World) : Calls Try.prog 70 #[.int .u8 k] w fun e w' => e = .returned (.bool (isK k)) ∧ w' = w := by
  go_enter Try.func70, Try.ntmps70
  go_wp2
  all_goals
    go_ret
    refine ⟨ret_bool ?_, rfl⟩
    unfold isK
    rw [Bool.eq_iff_iff]
    simp only [Bool.or_eq_true, Bool.and_eq_true, decide_eq_true_eq, beq_iff_eq, true_iff]
    first | omega | exact .inl (.inr trivial)
theorem nb_byte (c : UInt8) (w : World) : Calls Try.prog 70 #[.int .u8 (c.toNat : Int)] w fun e w' => e = .returned (.bool (inN c)) ∧ w' = w := by
  rw [inN_K]
  have := c.toNat_lt
  exact nb_any _ (by omega) (by omega) w
theorem take_snoc (s : ByteArray) (k : Nat) (h : k < s.size) : s.data.toList.take (k + 1) = s.data.toList.take k ++ [s[k]] := by
  rw [List.take_succ_eq_append_getElem (by simpa using h)]; rfl
theorem size_list (s : ByteArray) : s.size = s.data.toList.length := by simp
set_option maxRecDepth 100000 in
set_option maxHeartbeats 1600000 in
theorem name_any (s : ByteArray) (hs : s.size ≤ 140737488351232) (w : World) : Calls Try.prog 37 #[.string s] w fun e w' => e = .returned (.bool (named s)) ∧ w' = w := by
  have NB := nb_byte
  by_cases h1 : s.size < 1
  · have hn : named s = false := by unfold named; rw [decide_eq_false (by omega)]; rfl
    rw [hn]
    go_enter Try.func37, Try.ntmps37
    go_wp2
    go_ret
    exact ⟨rfl, rfl⟩
  · by_cases h2 : 16 < s.size
    · have hn : named s = false := by unfold named; rw [decide_eq_false (p := s.size ≤ 16) (by omega)]; simp
      rw [hn]
      go_enter Try.func37, Try.ntmps37
      go_wp2
      go_ret
      exact ⟨rfl, rfl⟩
    · have hn : named s = s.data.toList.all inN := by unfold named; rw [decide_eq_true (by omega), decide_eq_true (by omega)]; simp
      rw [hn]
      clear hn
      obtain ⟨B, hBB⟩ : ∃ B, B = s.data.toList.all inN := ⟨_, rfl⟩
      rw [← hBB]
      have HBB : Hid (B = s.data.toList.all inN) := hBB
      clear hBB
      go_enter Try.func37, Try.ntmps37
      go_wp2
      go_loop [14] (fun i => ∃ k : Nat, k ≤ s.size ∧ i = .int .i64 k ∧ (s.data.toList.take k).all inN = true) (fun i => s.size - (intOf i).toNat)
      case atStart => exact ⟨0, Nat.zero_le _, rfl, rfl⟩
      case round =>
        obtain ⟨k, hk, rfl, hall⟩ := hrel
        have HA : Hid ((s.data.toList.take k).all inN = true) := hall
        clear hall
        by_cases hlt : k < s.size
        · have HT : Hid (s.data.toList.take (k + 1) = s.data.toList.take k ++ [s[k]]) := take_snoc s k hlt
          cases hB : inN s[k] with
          | true =>
            have NB' := NB s[k]
            rw [hB] at NB'
            clear NB
            go_wp2_with (go_at_call 70; (with_reducible refine (NB' _).mono ?_); rintro e w1 ⟨rfl, rfl⟩)
            go_round
            case rel => exact ⟨k + 1, by omega, by go_num, by rw [HT.out, List.all_append, HA.out]; simp [hB]⟩
            case measure => simp [intOf]; omega
          | false =>
            have NB' := NB s[k]
            rw [hB] at NB'
            clear NB
            have hf : s.data.toList.all inN = false := by
              rw [List.all_eq_false]
              exact ⟨s[k], by rw [show s[k] = s.data[k] from rfl]; simp, by simp [hB]⟩
            have HF : Hid (s.data.toList.all inN = false) := hf
            clear hf
            go_wp2_with (go_at_call 70; (with_reducible refine (NB' _).mono ?_); rintro e w1 ⟨rfl, rfl⟩)
            go_ret
            exact ⟨ret_bool (HF.out.symm.trans HBB.out.symm), rfl⟩
        · have : (s.data.toList.take k) = s.data.toList := List.take_of_length_le (by rw [← size_list]; omega)
          have HE : Hid (s.data.toList.all inN = true) := by rw [← this]; exact HA.out
          clear this
          go_wp2
          go_ret
          exact ⟨ret_bool (HE.out.symm.trans HBB.out.symm), rfl⟩
theorem isK_iff (k : Int) : isK k = true ↔ ((97 ≤ k ∧ k ≤ 122) ∨ (48 ≤ k ∧ k ≤ 57) ∨ k = 45 ∨ k = 46) := by
  unfold isK
  simp only [Bool.or_eq_true, Bool.and_eq_true, decide_eq_true_eq, beq_iff_eq]
  omega
set_option maxRecDepth 100000 in
set_option maxHeartbeats 3200000 in
theorem rname_any (s : ByteArray) (hs : s.size ≤ 140737488351232) (w : World) : Calls Try.prog 41 #[.string s] w fun e w' => e = .returned (.bool (named s)) ∧ w' = w := by
  obtain ⟨B, hBB⟩ : ∃ B, B = named s := ⟨_, rfl⟩
  rw [← hBB]
  have HB : Hid (B = (decide (1 ≤ s.size) && decide (s.size ≤ 16) && s.data.toList.all inN)) := by
    show _ = _
    rw [hBB]
    rfl
  clear hBB
  go_enter Try.func41, Try.ntmps41
  go_wp2
  go_loop [3, 4] (fun i _ => ∃ k : Nat, k ≤ s.size ∧ i = .int .i64 k ∧ (s.data.toList.take k).all inN = true) (fun i _ => s.size - (intOf i).toNat)
  case atStart => exact ⟨0, Nat.zero_le _, rfl, rfl⟩
  case round =>
    obtain ⟨k, hk, rfl, hall⟩ := hrel
    have HA : Hid ((s.data.toList.take k).all inN = true) := hall
    clear hall
    by_cases hlt : k < s.size
    · have HT : Hid (s.data.toList.take (k + 1) = s.data.toList.take k ++ [s[k]]) := take_snoc s k hlt
      have HK : Hid (inN s[k] = isK (s[k].toNat : Int)) := inN_K s[k]
      have HF : Hid (inN s[k] = false → B = false) := fun hf => by
        rw [HB.out, List.all_eq_false.2 ⟨s[k], by rw [show s[k] = s.data[k] from rfl]; simp, by simp [hf]⟩]
        simp
      have hc := s[k].toNat_lt
      obtain ⟨c, hcc⟩ : ∃ c : Int, c = (s[k].toNat : Int) := ⟨_, rfl⟩
      have hc0 : 0 ≤ c := by omega
      have hc1 : c < 256 := by omega
      have HCC : Hid (c = (s[k].toNat : Int)) := hcc
      have IX : (Instr.index 9 (.string s) (.int .i64 (k : Int))).run Try.prog w = .ok (.int .u8 c) w := by
        rw [hcc]
        have h0 : 0 ≤ (k : Int) := by omega
        go_simp
      have HYES : Hid (isK c = true → (s.data.toList.take (k + 1)).all inN = true) := fun h => by
        rw [HT.out, List.all_append, HA.out]
        simp
        rw [HK.out, ← HCC.out]
        exact h
      have HNO : Hid (isK c = false → B = false) := fun h => HF.out (by rw [HK.out, ← HCC.out]; exact h)
      clear hcc HT HK HF HA hc
      by_cases hy : (97 ≤ c ∧ c ≤ 122) ∨ (48 ≤ c ∧ c ≤ 57) ∨ c = 45 ∨ c = 46
      · have HY : Hid ((s.data.toList.take (k + 1)).all inN = true) := HYES.out ((isK_iff c).2 hy)
        clear HYES HNO
        rcases hy with ⟨h1, h2⟩ | ⟨h1, h2⟩ | h1 | h1
        · go_wp2
          go_round
          case rel => exact ⟨k + 1, by omega, by go_num, HY.out⟩
          case measure => simp [intOf]; omega
        · have h3 : ¬ 97 ≤ c := by omega
          go_wp2
          go_round
          case rel => exact ⟨k + 1, by omega, by go_num, HY.out⟩
          case measure => simp [intOf]; omega
        · subst h1
          go_wp2
          go_round
          case rel => exact ⟨k + 1, by omega, by go_num, HY.out⟩
          case measure => simp [intOf]; omega
        · subst h1
          go_wp2
          go_round
          case rel => exact ⟨k + 1, by omega, by go_num, HY.out⟩
          case measure => simp [intOf]; omega
      · have HN : Hid (B = false) := HNO.out (by rw [Bool.eq_false_iff]; exact fun h => hy ((isK_iff c).1 h))
        have e5 : (c == 45) = false := by simp; omega
        have e6 : (c == 46) = false := by simp; omega
        have e7 : ¬ c = 45 := by omega
        have e8 : ¬ c = 46 := by omega
        clear HYES HNO
        have hw : (122 < c) ∨ (57 < c ∧ c < 97) ∨ c < 48 := by omega
        clear hy
        rcases hw with h1 | ⟨h1, h2⟩ | h1
        · have d1 : decide (c ≤ 122) = false := decide_eq_false (by omega)
          have d2 : decide (c ≤ 57) = false := decide_eq_false (by omega)
          go_wp2
          go_ret
          exact ⟨ret_bool HN.out.symm, rfl⟩
        · have d1 : decide (97 ≤ c) = false := decide_eq_false (by omega)
          have d2 : decide (c ≤ 57) = false := decide_eq_false (by omega)
          go_wp2
          go_ret
          exact ⟨ret_bool HN.out.symm, rfl⟩
        · have d1 : decide (97 ≤ c) = false := decide_eq_false (by omega)
          have d2 : decide (48 ≤ c) = false := decide_eq_false (by omega)
          go_wp2
          go_ret
          exact ⟨ret_bool HN.out.symm, rfl⟩
    · have e : s.data.toList.take k = s.data.toList := List.take_of_length_le (by rw [← size_list]; omega)
      have hall := HA.out
      rw [e] at hall
      have HBB : Hid (B = (decide (1 ≤ s.size) && decide (s.size ≤ 16))) := by
        show _ = _
        rw [HB.out, hall, Bool.and_true]
      clear e hall HA HB
      go_wp2
      all_goals
        go_ret
        refine ⟨ret_bool ?_, rfl⟩
        rw [HBB.out, Bool.eq_iff_iff]
        simp
        omega
end Go.Proofs.Ytlolhdijadhklaa
