/- What 'number', 'blank' answer. -/
import Derived.Test.YteiiapnpdfgoaaaDoorKBits
namespace Go.Proofs.YteiiapnpdfgoaaaDoor
open Go.RowKit

theorem index_at {P : Program} {T : TypeId} (hT : P.underlying T = some .string) (t : ByteArray) (i : Nat) (b : UInt8) (hb : t.data.toList[i]? = some b) (w : World) :
    (Instr.index T (.string t) (.int .i64 (i : Int))).run P w = .ok (.int .u8 (b.toNat : Int)) w := by
  have hi : i < t.size := by
    obtain ⟨h, _⟩ := List.getElem?_eq_some_iff.mp hb
    simpa using h
  rw [Lib.data_getElem? t i hi] at hb
  injection hb with hb
  rw [run_index_string w T t .i64 (i : Int) hT, dif_pos ⟨by omega, by omega⟩]
  simp only [Int.toNat_natCast, hb]

/-- What 'number' hands back. -/
def numV (l : List UInt8) : Value := match Cro.num l with
  | some n => .tuple #[.int .i64 n, .bool true]
  | none => .tuple #[.int .i64 0, .bool false]
theorem numV_some {l : List UInt8} {n : Nat} (h : Cro.num l = some n) : numV l = .tuple #[.int .i64 n, .bool true] := by rw [numV, h]
theorem numV_none {l : List UInt8} (h : Cro.num l = none) : numV l = .tuple #[.int .i64 0, .bool false] := by rw [numV, h]
theorem numV_bad {l : List UInt8} {i : Nat} {b : UInt8} (h : l[i]? = some b) (hd : Cro.dig b = false) : numV l = .tuple #[.int .i64 0, .bool false] := by
  refine numV_none ?_
  unfold Cro.num
  rw [if_neg]
  rintro ⟨_, _, c⟩
  rw [List.all_eq_true] at c
  have := c b (List.mem_of_getElem? h)
  rw [hd] at this
  cases this
theorem ret_val {a b : Value} (h : a = b) : Ending.returned a = .returned b := by rw [h]

set_option maxRecDepth 100000 in
set_option maxHeartbeats 400000 in
theorem number_any (t : ByteArray) (ht : t.size ≤ 9223372036854775807) (w : World) :
    Calls Tryd.prog 53 #[.string t] w fun e w' => e = .returned (numV t.data.toList) ∧ w' = w := by
  have hlen : t.data.toList.length = t.size := by simp
  generalize hN : numV t.data.toList = V
  have HN : Hid (numV t.data.toList = V) := hN
  clear hN
  by_cases h0 : t.size < 1
  · go_enter Tryd.func53, Tryd.ntmps53
    go_wp2
    go_ret2
    exact ⟨ret_val (HN.out.symm.trans (numV_none (by unfold Cro.num; rw [if_neg (by omega)]))).symm, rfl⟩
  · by_cases h4 : 4 < t.size
    · go_enter Tryd.func53, Tryd.ntmps53
      go_wp2
      go_ret2
      exact ⟨ret_val (HN.out.symm.trans (numV_none (by unfold Cro.num; rw [if_neg (by omega)]))).symm, rfl⟩
    · go_enter Tryd.func53, Tryd.ntmps53
      go_wp2
      go_loop [4, 16] (fun n i => ∃ k m : Nat, k ≤ t.size ∧ i = .int .i64 k ∧ n = .int .i64 m ∧ m < 10000 ∧ Hid (m = Cro.val (t.data.toList.take k) ∧ (t.data.toList.take k).all Cro.dig = true)) (fun _ i => (t.size - (intOf i).toNat))
      case atStart => exact ⟨0, 0, by omega, rfl, rfl, by omega, ⟨by simp [Cro.val], by simp⟩⟩
      case round =>
        obtain ⟨k, m, hk, rfl, rfl, hm, HM⟩ := hrel
        by_cases hlt : k < t.size
        · obtain ⟨b, hb⟩ : ∃ b, t.data.toList[k]? = some b := ⟨_, List.getElem?_eq_getElem (by omega)⟩
          have hix : ∀ w', (Instr.index 9 (.string t) (.int .i64 (k : Int))).run Tryd.prog w' = .ok (.int .u8 (b.toNat : Int)) w' := index_at Tryd.underlying9 t k b hb
          have HBd := fun (h : Cro.dig b = false) => (HN.out.symm.trans (numV_bad hb h))
          have HD : Hid (Cro.dig b = (decide (48 ≤ b.toNat) && decide (b.toNat ≤ 57))) := rfl
          have hS : t.data.toList.take (k + 1) = t.data.toList.take k ++ [b] := by
            rw [List.take_add_one, hb]
            rfl
          have HS : Hid (t.data.toList.take (k + 1) = t.data.toList.take k ++ [b]) := hS
          clear hS
          have HB : Hid (Cro.dig b = false → V = .tuple #[.int .i64 0, .bool false]) := HBd
          clear HBd hb
          have HV : Hid (∀ l, Cro.val (l ++ [b]) = Cro.val l * 10 + (b.toNat - 48)) := fun l => Cro.val_snoc l b
          obtain ⟨c, hc⟩ : ∃ c, c = b.toNat := ⟨_, rfl⟩
          rw [← hc] at hix HD HV
          clear hc
          by_cases c1 : c < 48
          · go_wp2
            go_ret2
            exact ⟨ret_val (HB.out (by rw [HD.out]; simp; omega)).symm, rfl⟩
          · by_cases c2 : 57 < c
            · go_wp2
              go_ret2
              exact ⟨ret_val (HB.out (by rw [HD.out]; simp; omega)).symm, rfl⟩
            · go_wp2
              go_round
              case rel =>
                have hM := HM.out
                have hd : (t.data.toList.take (k + 1)).all Cro.dig = true := by
                  rw [HS.out, List.all_append, hM.2]
                  simp only [List.all_cons, List.all_nil, HD.out]
                  simp
                  omega
                have hv : Cro.val (t.data.toList.take (k + 1)) = m * 10 + (c - 48) := by rw [HS.out, HV.out, ← hM.1]
                have hl : (t.data.toList.take (k + 1)).length = k + 1 := by rw [List.length_take]; omega
                have hlt' := Cro.val_le (k + 1) _ hl hd
                have hp : 10 ^ (k + 1) ≤ 10 ^ 4 := Nat.pow_le_pow_right (by omega) (by omega)
                exact ⟨k + 1, m * 10 + (c - 48), by omega, by go_num, by go_num, by omega, ⟨hv.symm, hd⟩⟩
              case measure => simp [intOf]; omega
        · obtain rfl : k = t.size := by omega
          go_wp2
          go_ret2
          have hM := HM.out
          rw [← hlen, List.take_length] at hM
          refine ⟨ret_val ?_, rfl⟩
          rw [← HN.out, numV_some (n := m) (by unfold Cro.num; rw [if_pos ⟨by omega, by omega, hM.2⟩, hM.1])]
          rfl
theorem number_some (t : ByteArray) (n : Nat) (h : Cro.num t.data.toList = some n) (w : World) :
    Calls Tryd.prog 53 #[.string t] w fun e w' => e = .returned (.tuple #[.int .i64 n, .bool true]) ∧ w' = w := by
  have hl : t.size ≤ 4 := by
    unfold Cro.num at h
    split at h
    · rename_i c; simpa using c.2.1
    · cases h
  have := number_any t (by omega) w
  rwa [numV_some h] at this
theorem number_none (t : ByteArray) (ht : t.size ≤ 9223372036854775807) (h : Cro.num t.data.toList = none) (w : World) :
    Calls Tryd.prog 53 #[.string t] w fun e w' => e = .returned (.tuple #[.int .i64 0, .bool false]) ∧ w' = w := by
  have := number_any t ht w
  rwa [numV_none h] at this
end Go.Proofs.YteiiapnpdfgoaaaDoor
