/- What 'shift' answers: the register behind eight shifts; nothing is written. -/
import Derived.Test.YtmolldednpdicaaRows
import Derived.Test.YtmolldednpdicaaMath
import Derived.WalkKit
import Derived.WalkSpells
import Derived.WalkLawsBesides
namespace Go.Proofs.Ytmolldednpdicaa
open Go.RowKit

theorem ret_int {k : IntKind} {a b : Int} (h : a = b) : Ending.returned (.int k a) = .returned (.int k b) := by rw [h]
theorem val_int {k : IntKind} {a b : Int} (h : a = b) : Value.int k a = .int k b := by rw [h]

set_option maxHeartbeats 400000 in
theorem shift_any (n : Nat) (hn : n < 4294967296) (w : World) :
    Calls Try.prog 44 #[.int .u32 n] w fun e w' => e = .returned (.int .u32 (Crc.shN 8 n : Nat)) ∧ w' = w := by
  go_enter Try.func44, Try.ntmps44
  go_wp2
  go_loop [0, 4] (fun r i => ∃ k : Nat, k ≤ 8 ∧ i = .int .i64 k ∧ r = .int .u32 (Crc.shN k n : Nat)) (fun _ i => 8 - (intOf i).toNat)
  case atStart => exact ⟨0, by omega, rfl, rfl⟩
  case round =>
    obtain ⟨k, hk, rfl, rfl⟩ := hrel
    have hlt := Crc.shN_lt k hn
    by_cases hlk : k < 8
    · go_wp2
      all_goals
        go_round
        case rel => exact ⟨k + 1, by omega, by go_num, val_int (by first | exact Crc.shift_hit _ hlt ‹_› | exact Crc.shift_miss _ hlt ‹_›)⟩
        case measure => simp [intOf]; omega
    · go_wp2
      obtain rfl : k = 8 := by omega
      go_ret
      exact ⟨rfl, rfl⟩
theorem shift_wrapped (n : Nat) (hn : n < 4294967296) (w : World) :
    Calls Try.prog 44 #[.int .u32 (IntKind.u32.wrap n)] w fun e w' => e = .returned (.int .u32 (Crc.shN 8 n : Nat)) ∧ w' = w := by
  have h : IntKind.u32.wrap (n : Int) = n := by rw [IntKind.wrap_u32']; omega
  rw [h]
  exact shift_any n hn w
end Go.Proofs.Ytmolldednpdicaa
