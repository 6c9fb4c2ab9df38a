/- The reference's Named, Sync, Read. -/
import Derived.Test.YtapdhkgeolcogaaGreatDoorHa
import Derived.Laws.CopyRow
namespace Go.Proofs.YtapdhkgeolcogaaGreatDoor
open Go.RowKit Dsk
set_option linter.unusedVariables false
set_option maxRecDepth 10000

theorem isK_iff (k : Int) : isK k = true ↔ ((97 ≤ k ∧ k ≤ 122) ∨ (48 ≤ k ∧ k ≤ 57) ∨ k = 45 ∨ k = 46) := by
  unfold isK
  simp only [Bool.or_eq_true, Bool.and_eq_true, decide_eq_true_eq, beq_iff_eq]
  omega
set_option maxRecDepth 100000 in
set_option maxHeartbeats 3200000 in
theorem named_any (s : ByteArray) (hs : s.size ≤ 140737488351232) (w : World) : Calls Tryz.prog 47 #[.string s] w fun e w' => e = .returned (.bool (isNm s.data.toList)) ∧ w' = w := by
  obtain ⟨B, hBB⟩ : ∃ B, B = isNm s.data.toList := ⟨_, rfl⟩
  rw [← hBB]
  have HB : Hid (B = (decide (1 ≤ s.size) && decide (s.size ≤ 16) && s.data.toList.all isB)) := by
    show _ = _
    rw [hBB, size_list]
    rfl
  clear hBB
  go_enter Tryz.func47, Tryz.ntmps47
  go_wp2
  go_loop [3, 4] (fun i _ => ∃ k : Nat, k ≤ s.size ∧ i = .int .i64 k ∧ (s.data.toList.take k).all isB = true) (fun i _ => s.size - (intOf i).toNat)
  case atStart => exact ⟨0, Nat.zero_le _, rfl, rfl⟩
  case round =>
    obtain ⟨k, hk, rfl, hall⟩ := hrel
    have HA : Hid ((s.data.toList.take k).all isB = true) := hall
    clear hall
    by_cases hlt : k < s.size
    · have HT : Hid (s.data.toList.take (k + 1) = s.data.toList.take k ++ [s[k]]) := take_snoc s k hlt
      have HK : Hid (isB s[k] = isK (s[k].toNat : Int)) := isB_K s[k]
      have HF : Hid (isB s[k] = false → B = false) := fun hf => by
        rw [HB.out, List.all_eq_false.2 ⟨s[k], by rw [show s[k] = s.data[k] from rfl]; simp, by simp [hf]⟩]
        simp
      have hc := s[k].toNat_lt
      obtain ⟨c, hcc⟩ : ∃ c : Int, c = (s[k].toNat : Int) := ⟨_, rfl⟩
      have hc0 : 0 ≤ c := by omega
      have hc1 : c < 256 := by omega
      have HCC : Hid (c = (s[k].toNat : Int)) := hcc
      have IX : (Instr.index 9 (.string s) (.int .i64 (k : Int))).run Tryz.prog w = .ok (.int .u8 c) w := by
        rw [hcc]
        have h0 : 0 ≤ (k : Int) := by omega
        go_simp
      have HYES : Hid (isK c = true → (s.data.toList.take (k + 1)).all isB = true) := fun h => by
        rw [HT.out, List.all_append, HA.out]
        simp
        rw [HK.out, ← HCC.out]
        exact h
      have HNO : Hid (isK c = false → B = false) := fun h => HF.out (by rw [HK.out, ← HCC.out]; exact h)
      clear hcc HT HK HF HA hc
      by_cases hy : (97 ≤ c ∧ c ≤ 122) ∨ (48 ≤ c ∧ c ≤ 57) ∨ c = 45 ∨ c = 46
      · have HY : Hid ((s.data.toList.take (k + 1)).all isB = true) := HYES.out ((isK_iff c).2 hy)
        clear HYES HNO
        rcases hy with ⟨h1, h2⟩ | ⟨h1, h2⟩ | h1 | h1
        · go_wp2
          go_round
          case rel => exact ⟨k + 1, by omega, by go_num, HY.out⟩
          case measure => simp [intOf]; omega
        · have h3 : ¬ 97 ≤ c := by omega
          go_wp2
          go_round
          case rel => exact ⟨k + 1, by omega, by go_num, HY.out⟩
          case measure => simp [intOf]; omega
        · subst h1
          go_wp2
          go_round
          case rel => exact ⟨k + 1, by omega, by go_num, HY.out⟩
          case measure => simp [intOf]; omega
        · subst h1
          go_wp2
          go_round
          case rel => exact ⟨k + 1, by omega, by go_num, HY.out⟩
          case measure => simp [intOf]; omega
      · have HN : Hid (B = false) := HNO.out (by rw [Bool.eq_false_iff]; exact fun h => hy ((isK_iff c).1 h))
        have e5 : (c == 45) = false := by simp; omega
        have e6 : (c == 46) = false := by simp; omega
        have e7 : ¬ c = 45 := by omega
        have e8 : ¬ c = 46 := by omega
        clear HYES HNO
        have hw : (122 < c) ∨ (57 < c ∧ c < 97) ∨ c < 48 := by omega
        clear hy
        rcases hw with h1 | ⟨h1, h2⟩ | h1
        · have d1 : decide (c ≤ 122) = false := decide_eq_false (by omega)
          have d2 : decide (c ≤ 57) = false := decide_eq_false (by omega)
          go_wp2
          go_ret
          exact ⟨ret_bool HN.out.symm, rfl⟩
        · have d1 : decide (97 ≤ c) = false := decide_eq_false (by omega)
          have d2 : decide (c ≤ 57) = false := decide_eq_false (by omega)
          go_wp2
          go_ret
          exact ⟨ret_bool HN.out.symm, rfl⟩
        · have d1 : decide (97 ≤ c) = false := decide_eq_false (by omega)
          have d2 : decide (48 ≤ c) = false := decide_eq_false (by omega)
          go_wp2
          go_ret
          exact ⟨ret_bool HN.out.symm, rfl⟩
    · have e : s.data.toList.take k = s.data.toList := List.take_of_length_le (by rw [← size_list]; omega)
      have hall := HA.out
      rw [e] at hall
      have HBB : Hid (B = (decide (1 ≤ s.size) && decide (s.size ≤ 16))) := by
        show _ = _
        rw [HB.out, hall, Bool.and_true]
      clear e hall HA HB
      go_wp2
      all_goals
        go_ret
        refine ⟨ret_bool ?_, rfl⟩
        rw [HBB.out, Bool.eq_iff_iff]
        simp
        omega
def syncR (L : List Rw) (x : List UInt8) : List Rw := L.map fun y => if y.nm = x then { y with sy := true } else y
theorem syncR_len (L : List Rw) (x : List UInt8) : (syncR L x).length = L.length := by simp [syncR]
/-- The first k have been gone through. -/
def syncK (L : List Rw) (x : List UInt8) (k : Nat) : List Rw := syncR (L.take k) x ++ L.drop k
theorem syncK_zero (L : List Rw) (x : List UInt8) : syncK L x 0 = L := by simp [syncK, syncR]
theorem syncK_len (L : List Rw) (x : List UInt8) (k : Nat) : (syncK L x k).length = L.length := by simp [syncK, syncR]; omega
theorem syncK_at {L : List Rw} (x : List UInt8) {k : Nat} {y : Rw} (h : L[k]? = some y) : (syncK L x k)[k]? = some y := by
  have hlt := (List.getElem?_eq_some_iff.1 h).1
  unfold syncK
  rw [List.getElem?_append_right (by simp [syncR]; omega)]
  simp only [syncR, List.length_map, List.length_take, List.getElem?_drop]
  rw [show k + (k - min k L.length) = k by omega]
  exact h
theorem syncK_next {L : List Rw} (x : List UInt8) {k : Nat} {y : Rw} (h : L[k]? = some y) : syncK L x (k + 1) = (syncK L x k).set k (if y.nm = x then { y with sy := true } else y) := by
  have hlt := (List.getElem?_eq_some_iff.1 h).1
  have hge := (List.getElem?_eq_some_iff.1 h).2
  unfold syncK syncR
  rw [List.take_add_one, h, List.drop_eq_getElem_cons hlt, hge]
  simp only [Option.toList_some, List.map_append, List.map_cons, List.map_nil, List.append_assoc, List.singleton_append]
  rw [List.set_append_right _ _ (by simp; omega)]
  simp only [List.length_map, List.length_take]
  rw [show k - min k L.length = 0 by omega]
  rfl
theorem syncK_all (L : List Rw) (x : List UInt8) : syncK L x L.length = syncR L x := by simp [syncK]
theorem ptr_off {W : World} {g o g' i : Nat} (h : (Result.ok (Value.pointer (some ⟨g, o, none⟩)) W : Result Value) = .ok (.pointer (some ⟨g', 0 + i * eR.size, none⟩)) W) : o = i * 3 := by
  injection h with h
  injection h with h
  injection h with h
  injection h with _ h
  have : eR.size = 3 := rfl
  rw [this] at h
  omega
/-- The mark of one write set. -/
theorem own_mark {w : World} {base : Nat} {v : Value} {l : List Rw} (h : eR.Own w base v l) (hl : l.length ≤ 1000000000) {i : Nat} {y : Rw} (hi : l[i]? = some y) :
    ∃ g o, (∀ W, (Instr.indexAt 28 v (.int .i64 (i : Int))).run Tryz.prog W = .ok (.pointer (some ⟨g, o, none⟩)) W) ∧ w.cell? ⟨g, o, none⟩ = some (.string ⟨y.nm.toArray⟩) ∧ w.cell? ⟨g, o + 2, none⟩ = some (.bool y.sy) ∧ w.frozen? ⟨g, o + 2, none⟩ = false ∧ v.ownBlock = some g ∧ eR.Own (w.setCell ⟨g, o + 2, none⟩ (.bool true)) base v (l.set i { y with sy := true }) := by
  obtain ⟨g, o, h1, h2, h3, h4⟩ := h.idx (by omega) hi
  have hlt := (List.getElem?_eq_some_iff.1 hi).1
  refine ⟨g, o, h1, h2 0 _ rfl, h2 2 _ rfl, h3 _, h4, ?_⟩
  rcases h.2 with ⟨e, h0⟩ | ⟨g', cap, cur, e, hg, hh, k1, k2, k3, k4⟩
  · omega
  · rw [e] at h4
    have e1 : g' = g := by injection h4
    subst e1
    -- where it lies
    have ho : o = i * 3 := by
      have := h1 default
      rw [e] at this
      have h5 := Elm.run_at (E := eR) (W := default) (g := g') (o := 0) (n := l.length) (c := cap) hlt (by omega)
      exact ptr_off (this.symm.trans h5)
    subst ho
    rw [setCell_eq_setRow w g' (i * 3 + 2) cur eR.el (0, 0) (.bool true) hh]
    refine ⟨by rw [Elm.cells_len], .inr ⟨g', cap, cur.setIfInBounds (i * 3 + 2) (.bool true), by rw [List.length_set]; exact e, hg, setRow_heap w g' cur _ eR.el (0, 0) hh, by rw [List.length_set]; exact k1, k2, by simpa using k3, ?_⟩⟩
    rw [List.length_set]
    have hs3 : eR.size = 3 := rfl
    rw [hs3] at k4 ⊢
    have hcs : eR.cells (l.set i { y with sy := true }) = (eR.cells l).set (i * 3 + 2) (.bool true) := by
      have e2 : l.set i { y with sy := true } = l.take i ++ { y with sy := true } :: l.drop (i + 1) := by rw [List.set_eq_take_append_cons_drop, if_pos hlt]
      have e3 : l = l.take i ++ y :: l.drop (i + 1) := by
        conv => lhs; rw [← List.take_append_drop i l, List.drop_eq_getElem_cons hlt, (List.getElem?_eq_some_iff.1 hi).2]
      have hlen : (eR.cells (l.take i)).length = i * 3 := by rw [Elm.cells_len, hs3, List.length_take]; congr 1; omega
      rw [e2, Elm.cells_append, Elm.cells_cons]
      conv => rhs; rw [e3, Elm.cells_append, Elm.cells_cons]
      rw [List.set_append_right _ _ (by omega), hlen, show i * 3 + 2 - i * 3 = 2 by omega]
      rfl
    rw [hcs, ← k4]
    simp only [Array.toList_setIfInBounds]
    rw [List.take_set]
end Go.Proofs.YtapdhkgeolcogaaGreatDoor
