/- What the writing of a number, of a field answers. -/
import Derived.Test.YtmolldednpdicaaCAppend
namespace Go.Proofs.Ytmolldednpdicaa
open Go.RowKit

theorem or_128 : ∀ x : Fin 256, bits .or .u8 (x.val : Int) 128 = ((x.val % 128 + 128 : Nat) : Int) := by decide +kernel
theorem or_byte (m : Nat) : bits .or .u8 ((m : Int) % 256) 128 = ((m % 128 + 128 : Nat) : Int) := by
  have h := or_128 ⟨m % 256, Nat.mod_lt _ (by decide)⟩
  simp only at h
  have e : ((m % 256 : Nat) : Int) = (m : Int) % 256 := by omega
  rw [e] at h
  rw [h]
  omega

set_option maxRecDepth 100000 in
set_option maxHeartbeats 400000 in
theorem number_any (v : Value) (l0 : List Int) (n : Nat) (hn : n < 18446744073709551616) (base : Nat) (w : World) (hown : Own w base v l0) (hbase : base ≤ w.heap.size) (hb : l0.length ≤ 140737488351220) :
    Calls Try.prog 22 #[v, .int .u64 n] w fun e w' => ∃ v', e = .returned v' ∧ Ext w base v w' v' (l0 ++ Code.put n) := by
  go_enter Try.func22, Try.ntmps22
  go_wp2
  go_loopw [0, 1] (fun b x wr => ∃ (m : Nat) (l : List Int), x = .int .u64 m ∧ m ≤ n ∧ Hid (l0 ++ Code.put n = l ++ Code.put m) ∧ Ext w base v wr b l) (fun _ x _ => (intOf x).toNat)
  case atStart => exact ⟨n, l0, rfl, Nat.le_refl _, rfl, Ext.refl hown⟩
  case round =>
    obtain ⟨m, l, rfl, hm, HL, hE⟩ := hrel
    have hlen : l.length ≤ 140737488351230 := by
      have h1 := congrArg List.length HL.out
      have h2 := Code.put_len10 hn
      simp at h1
      omega
    have hsz := hE.grown.size
    by_cases h : m < 128
    · have HE2 : Hid (l0 ++ Code.put n = l ++ [(m : Int)]) := by show _ = _; rw [HL.out, Code.put_small h]
      have hby : Crc.Byte (m : Int) := by unfold Crc.Byte; omega
      have hmod : (m : Int) % 256 = m := by omega
      go_wp2_with (at_builtin; go_must (refine wpList_append_one rfl (.tmp 15) (.tmp 18) rfl base _ l rfl hE.own m hby rfl (by omega) (by omega) ?_); intro v2 w2 hE2)
      go_ret
      exact ⟨_, rfl, by rw [HE2.out]; exact hE.trans hE2⟩
    · have HE2 : Hid (l0 ++ Code.put n = (l ++ [((m % 128 + 128 : Nat) : Int)]) ++ Code.put (m / 128)) := by show _ = _; rw [HL.out, Code.put_big (by omega), List.append_assoc]; rfl
      have hby : Crc.Byte ((m % 128 + 128 : Nat) : Int) := by unfold Crc.Byte; omega
      have hor := or_byte m
      obtain ⟨q, hq⟩ : ∃ q, q = m % 128 + 128 := ⟨_, rfl⟩
      rw [← hq] at hby hor HE2
      clear hq
      go_wp2_with (at_builtin; go_must (refine wpList_append_one rfl (.tmp 9) (.tmp 13) rfl base _ l rfl hE.own q hby rfl (by omega) (by omega) ?_); intro v2 w2 hE2)
      go_roundw
      case rel => exact ⟨m / 128, _, by go_num, by omega, HE2, hE.trans hE2⟩
      case measure => simp [intOf]; omega
end Go.Proofs.Ytmolldednpdicaa
