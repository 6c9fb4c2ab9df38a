/- Which names files may have; a new disk; a file looked up. -/
import Derived.Test.YthpeeldpalmakaaQDisk
namespace Go.Proofs.Ythpeeldpalmakaa
open Go.RowKit Dsk
set_option linter.unusedVariables false

def isK (k : Int) : Bool := decide (97 ≤ k) && decide (k ≤ 122) || decide (48 ≤ k) && decide (k ≤ 57) || k == 45 || k == 46
theorem isB_K (c : UInt8) : isB c = isK (c.toNat : Int) := by
  have h1 : ∀ n : Nat, n < 256 → (UInt8.ofNat n ≤ c ↔ (n : Int) ≤ c.toNat) := fun n hn => by rw [UInt8.le_iff_toNat_le, UInt8.toNat_ofNat_of_lt' (by simpa using hn)]; omega
  have h2 : ∀ n : Nat, n < 256 → (c ≤ UInt8.ofNat n ↔ (c.toNat : Int) ≤ n) := fun n hn => by rw [UInt8.le_iff_toNat_le, UInt8.toNat_ofNat_of_lt' (by simpa using hn)]; omega
  have h3 : ∀ n : Nat, n < 256 → (c = UInt8.ofNat n ↔ (c.toNat : Int) = n) := fun n hn => by
    rw [← UInt8.toNat_inj, UInt8.toNat_ofNat_of_lt' (by simpa using hn)]; omega
  have a1 := h1 97 (by omega); have a2 := h2 122 (by omega); have a3 := h1 48 (by omega); have a4 := h2 57 (by omega); have a5 := h3 45 (by omega); have a6 := h3 46 (by omega)
  unfold isB isK
  rw [Bool.eq_iff_iff]
  simp only [Bool.or_eq_true, Bool.and_eq_true, decide_eq_true_eq, beq_iff_eq]
  have e1 : (97 : UInt8) = UInt8.ofNat 97 := rfl
  have e2 : (122 : UInt8) = UInt8.ofNat 122 := rfl
  have e3 : (48 : UInt8) = UInt8.ofNat 48 := rfl
  have e4 : (57 : UInt8) = UInt8.ofNat 57 := rfl
  have e5 : (45 : UInt8) = UInt8.ofNat 45 := rfl
  have e6 : (46 : UInt8) = UInt8.ofNat 46 := rfl
  rw [e1, e2, e3, e4, e5, e6, a1, a2, a3, a4, a5, a6]
  simp
set_option maxRecDepth 100000 in
set_option maxHeartbeats 1600000 in
theorem nb_any (k : Int) (h0 : 0 ≤ k) (h1 : k < 256) (w : World) : Calls Try.prog 39 #[.int .u8 k] w fun e w' => e = .returned (.bool (isK k)) ∧ w' = w := by
  go_enter Try.func39, Try.ntmps39
  go_wp2
  all_goals
    go_ret
    refine ⟨ret_bool ?_, rfl⟩
    unfold isK
    rw [Bool.eq_iff_iff]
    simp only [Bool.or_eq_true, Bool.and_eq_true, decide_eq_true_eq, beq_iff_eq, true_iff]
    first | omega | exact .inl (.inr trivial)
theorem nb_byte (c : UInt8) (w : World) : Calls Try.prog 39 #[.int .u8 (c.toNat : Int)] w fun e w' => e = .returned (.bool (isB c)) ∧ w' = w := by
  rw [isB_K]
  have := c.toNat_lt
  exact nb_any _ (by omega) (by omega) w
theorem take_snoc (s : ByteArray) (k : Nat) (h : k < s.size) : s.data.toList.take (k + 1) = s.data.toList.take k ++ [s[k]] := by
  rw [List.take_succ_eq_append_getElem (by simpa using h)]; rfl
theorem size_list (s : ByteArray) : s.size = s.data.toList.length := by simp
set_option maxRecDepth 100000 in
set_option maxHeartbeats 1600000 in
theorem name_any (s : ByteArray) (hs : s.size ≤ 140737488351232) (w : World) : Calls Try.prog 33 #[.string s] w fun e w' => e = .returned (.bool (isNm s.data.toList)) ∧ w' = w := by
  have NB := nb_byte
  by_cases h1 : s.size < 1
  · have hn : isNm s.data.toList = false := by unfold isNm; rw [← size_list, decide_eq_false (by omega)]; rfl
    rw [hn]
    go_enter Try.func33, Try.ntmps33
    go_wp2
    go_ret
    exact ⟨rfl, rfl⟩
  · by_cases h2 : 16 < s.size
    · have hn : isNm s.data.toList = false := by unfold isNm; rw [← size_list, decide_eq_false (p := s.size ≤ 16) (by omega)]; simp
      rw [hn]
      go_enter Try.func33, Try.ntmps33
      go_wp2
      go_ret
      exact ⟨rfl, rfl⟩
    · have hn : isNm s.data.toList = s.data.toList.all isB := by unfold isNm; rw [← size_list, decide_eq_true (by omega), decide_eq_true (by omega)]; simp
      rw [hn]
      clear hn
      obtain ⟨B, hBB⟩ : ∃ B, B = s.data.toList.all isB := ⟨_, rfl⟩
      rw [← hBB]
      have HBB : Hid (B = s.data.toList.all isB) := hBB
      clear hBB
      go_enter Try.func33, Try.ntmps33
      go_wp2
      go_loop [14] (fun i => ∃ k : Nat, k ≤ s.size ∧ i = .int .i64 k ∧ (s.data.toList.take k).all isB = true) (fun i => s.size - (intOf i).toNat)
      case atStart => exact ⟨0, Nat.zero_le _, rfl, rfl⟩
      case round =>
        obtain ⟨k, hk, rfl, hall⟩ := hrel
        have HA : Hid ((s.data.toList.take k).all isB = true) := hall
        clear hall
        by_cases hlt : k < s.size
        · have HT : Hid (s.data.toList.take (k + 1) = s.data.toList.take k ++ [s[k]]) := take_snoc s k hlt
          cases hB : isB s[k] with
          | true =>
            have NB' := NB s[k]
            rw [hB] at NB'
            clear NB
            go_wp2_with (go_at_call 39; (with_reducible refine (NB' _).mono ?_); rintro e w1 ⟨rfl, rfl⟩)
            go_round
            case rel => exact ⟨k + 1, by omega, by go_num, by rw [HT.out, List.all_append, HA.out]; simp [hB]⟩
            case measure => simp [intOf]; omega
          | false =>
            have NB' := NB s[k]
            rw [hB] at NB'
            clear NB
            have hf : s.data.toList.all isB = false := by
              rw [List.all_eq_false]
              exact ⟨s[k], by rw [show s[k] = s.data[k] from rfl]; simp, by simp [hB]⟩
            have HF : Hid (s.data.toList.all isB = false) := hf
            clear hf
            go_wp2_with (go_at_call 39; (with_reducible refine (NB' _).mono ?_); rintro e w1 ⟨rfl, rfl⟩)
            go_ret
            exact ⟨ret_bool (HF.out.symm.trans HBB.out.symm), rfl⟩
        · have : (s.data.toList.take k) = s.data.toList := List.take_of_length_le (by rw [← size_list]; omega)
          have HE : Hid (s.data.toList.all isB = true) := by rw [← this]; exact HA.out
          clear this
          go_wp2
          go_ret
          exact ⟨ret_bool (HE.out.symm.trans HBB.out.symm), rfl⟩
end Go.Proofs.Ythpeeldpalmakaa
