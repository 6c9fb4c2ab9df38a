/- What the document's own answer writes: numbers, fields, frames. -/
import Derived.Test.YtmolldednpdicaaCFrame
import Derived.Test.YtmolldednpdicaaRef
namespace Go.Proofs.Ytmolldednpdicaa
open Go.RowKit

set_option maxRecDepth 100000 in
set_option maxHeartbeats 400000 in
theorem put_any (v : Value) (l0 : List Int) (n : Nat) (hn : n < 18446744073709551616) (base : Nat) (w : World) (hown : Own w base v l0) (hbase : base ≤ w.heap.size) (hb : l0.length ≤ 140737488351220) :
    Calls Try.prog 21 #[v, .int .u64 n] w fun e w' => ∃ v', e = .returned v' ∧ Ext w base v w' v' (l0 ++ Code.put n) := by
  go_enter Try.func21, Try.ntmps21
  go_wp2
  go_loopw [0, 1] (fun b x wr => ∃ (m : Nat) (l : List Int), x = .int .u64 m ∧ m ≤ n ∧ Hid (l0 ++ Code.put n = l ++ Code.put m) ∧ Ext w base v wr b l) (fun _ x _ => (intOf x).toNat)
  case atStart => exact ⟨n, l0, rfl, Nat.le_refl _, rfl, Ext.refl hown⟩
  case round =>
    obtain ⟨m, l, rfl, hm, HL, hE⟩ := hrel
    have hlen : l.length ≤ 140737488351230 := by
      have h1 := congrArg List.length HL.out
      have h2 := Code.put_len10 hn
      simp at h1
      omega
    have hsz := hE.grown.size
    by_cases h : m < 128
    · have HE2 : Hid (l0 ++ Code.put n = l ++ [(m : Int)]) := by show _ = _; rw [HL.out, Code.put_small h]
      have hby : Crc.Byte (m : Int) := by unfold Crc.Byte; omega
      have hmod : (m : Int) % 256 = m := by omega
      have hle : (m : Int) ≤ 127 := by omega
      go_wp2_with (at_builtin; go_must (refine wpList_append_one rfl (.tmp 16) (.tmp 19) rfl base _ l rfl hE.own m hby rfl (by omega) (by omega) ?_); intro v2 w2 hE2)
      go_ret
      exact ⟨_, rfl, by rw [HE2.out]; exact hE.trans hE2⟩
    · have HE2 : Hid (l0 ++ Code.put n = (l ++ [((m % 128 + 128 : Nat) : Int)]) ++ Code.put (m / 128)) := by show _ = _; rw [HL.out, Code.put_big (by omega), List.append_assoc]; rfl
      have hby : Crc.Byte ((m % 128 + 128 : Nat) : Int) := by unfold Crc.Byte; omega
      have hgt : (127 : Int) < (m : Int) := by omega
      have hw1 : IntKind.u64.wrap (128 + (m : Int) % 128) = ((m % 128 + 128 : Nat) : Int) := by rw [IntKind.wrap_u64]; omega
      have hw2 : ((m % 128 + 128 : Nat) : Int) % 256 = ((m % 128 + 128 : Nat) : Int) := by omega
      obtain ⟨q, hq⟩ : ∃ q, q = m % 128 + 128 := ⟨_, rfl⟩
      rw [← hq] at hby hw1 hw2 HE2
      clear hq h
      go_wp2_with (at_builtin; go_must (refine wpList_append_one rfl (.tmp 7) (.tmp 12) rfl base _ l rfl hE.own q hby rfl (by omega) (by omega) ?_); intro v2 w2 hE2)
      go_roundw
      case rel => exact ⟨m / 128, _, by go_num, by omega, HE2, hE.trans hE2⟩
      case measure => simp [intOf]; omega
end Go.Proofs.Ytmolldednpdicaa
