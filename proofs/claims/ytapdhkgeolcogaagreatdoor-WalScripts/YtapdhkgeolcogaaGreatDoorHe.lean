/- What the document's own reckoning, bit by bit, answers: the same sums. -/
import Derived.Test.YtapdhkgeolcogaaGreatDoorGe
namespace Go.Proofs.YtapdhkgeolcogaaGreatDoor.Cd
open Go.RowKit

theorem xor32 (r x : Nat) (hr : r < 4294967296) (hx : x < 256) : bits .xor .u32 (r : Int) (x : Int) = ((r ^^^ x : Nat) : Int) := u32_xor_nat r x hr (by omega)
theorem bit_hit (m : Nat) (h : m < 4294967296) (t : ((m : Int) % 2 == 1) = true) : bits .xor .u32 ((m : Int) / 2) 3988292384 = ((Crc.sh1 m : Nat) : Int) :=
  Crc.shift_hit m h (by rw [Crc.and_one m h]; simpa using t)
theorem bit_miss (m : Nat) (h : m < 4294967296) (t : ((m : Int) % 2 == 1) = false) : (m : Int) / 2 = ((Crc.sh1 m : Nat) : Int) :=
  Crc.shift_miss m h (by rw [Crc.and_one m h]; simpa using t)

set_option maxRecDepth 100000 in
set_option maxHeartbeats 400000 in
theorem ref_of (s : Nat) (hs : s < 4294967296) (b off cap : Nat) (l : List Int) (hb : Crc.Bytes l) (hl : l.length ≤ 9223372036854775807) (w : World)
    (hc : ∀ i, i < l.length → w.cell? ⟨b, off + i, none⟩ = some (.int .u8 (l.getD i 0))) :
    Calls Tryz.prog 80 #[.int .u32 s, .slice (some ⟨b, off, none⟩) l.length cap] w fun e w' => e = .returned (.int .u32 (Crc.more s l : Nat)) ∧ w' = w := by
  go_enter Tryz.func80, Tryz.ntmps80
  go_wp2
  go_loop [5, 6] (fun r i => ∃ k : Nat, k ≤ l.length ∧ i = .int .i64 k ∧ r = .int .u32 (Crc.run (Crc.inv s) (l.take k) : Nat)) (fun _ i => l.length - (intOf i).toNat)
  case atStart => exact ⟨0, Nat.zero_le _, rfl, val_int (by unfold Crc.run Crc.inv; simp; omega)⟩
  case round =>
    obtain ⟨k, hk, rfl, rfl⟩ := hrel
    by_cases hlk : k < l.length
    · have hck := hc k hlk
      obtain ⟨x, hx, hxe, htk⟩ := Crc.byte_of hb k hlk
      rw [hxe] at hck
      have hr : Crc.run (Crc.inv s) (l.take k) < 4294967296 := Crc.run_lt _ (hb.take k) _ (Crc.inv_lt _)
      obtain ⟨r, HR⟩ : ∃ r, Hid (Crc.run (Crc.inv s) (l.take k) = r) := ⟨_, rfl⟩
      rw [HR.out] at hr ⊢
      have H2 : Hid (Crc.run (Crc.inv s) (l.take (k + 1)) = Crc.shN 8 (r ^^^ x)) := by
        show _ = _
        rw [htk, Crc.run_snoc, HR.out, ← Crc.stp_eq]; rfl
      have hxx := xor32 r x hr hx
      have hrx : r ^^^ x < 4294967296 := Crc.xor_lt 32 hr (by omega)
      clear hc htk hxe
      go_wp2
      go_loop [5, 7] (fun c i => ∃ j : Nat, j ≤ 8 ∧ i = .int .i64 j ∧ c = .int .u32 (Crc.shN j (r ^^^ x) : Nat)) (fun _ i => 8 - (intOf i).toNat)
      case atStart => exact ⟨0, by omega, rfl, rfl⟩
      case round =>
        obtain ⟨j, hj, rfl, rfl⟩ := hrel
        have hlt := Crc.shN_lt j hrx
        obtain ⟨m, HM⟩ : ∃ m, Hid (Crc.shN j (r ^^^ x) = m) := ⟨_, rfl⟩
        rw [HM.out] at hlt ⊢
        by_cases hj8 : j < 8
        · have HN : Hid (Crc.shN (j + 1) (r ^^^ x) = Crc.sh1 m) := by show _ = _; rw [← HM.out]; rfl
          go_wp2
          all_goals
            go_round
            case rel => exact ⟨j + 1, by omega, by go_num, val_int (by rw [HN.out]; first | exact bit_hit _ hlt ‹_› | exact bit_miss _ hlt ‹_›)⟩
            case measure => simp [intOf]; omega
        · obtain rfl : j = 8 := by omega
          go_wp2
          go_round
          case rel => exact ⟨k + 1, by omega, by go_num, val_int (by rw [H2.out, HM.out])⟩
          case measure => simp [intOf]; omega
    · obtain rfl : k = l.length := by omega
      have ht : l.take l.length = l := List.take_length
      rw [ht]
      have hr : Crc.run (Crc.inv s) l < 4294967296 := Crc.run_lt _ hb _ (Crc.inv_lt _)
      clear hc ht
      go_wp2
      go_ret
      exact ⟨ret_int (by unfold Crc.more; unfold Crc.inv at hr ⊢; omega), rfl⟩

set_option maxRecDepth 100000 in
theorem ref_nil (s : Nat) (hs : s < 4294967296) (a : Option Addr) (cap : Nat) (w : World) :
    Calls Tryz.prog 80 #[.int .u32 s, .slice a 0 cap] w fun e w' => e = .returned (.int .u32 (Crc.more s [] : Nat)) ∧ w' = w := by
  go_enter Tryz.func80, Tryz.ntmps80
  go_wp2
  go_loop [5, 6] (fun r i => i = .int .i64 0 ∧ r = .int .u32 (Crc.inv s : Nat)) (fun _ _ => 0)
  case atStart => exact ⟨rfl, val_int (by unfold Crc.inv; omega)⟩
  case round =>
    obtain ⟨rfl, rfl⟩ := hrel
    have hi := Crc.inv_lt s
    go_wp2
    go_ret
    exact ⟨ret_int (by unfold Crc.more; rw [Crc.run_nil]; unfold Crc.inv; omega), rfl⟩

theorem ref_rd (s : Nat) (hs : s < 4294967296) (v : Value) (l : List Int) (w : World) (hv : Rd w v l) :
    Calls Tryz.prog 80 #[.int .u32 s, v] w fun e w' => e = .returned (.int .u32 (Crc.more s l : Nat)) ∧ w' = w := by
  rcases hv.val with ⟨rfl, rfl | ⟨a, cap, rfl⟩⟩ | ⟨b, off, cap, rfl, hc⟩
  · exact ref_nil s hs none 0 w
  · exact ref_nil s hs (some a) cap w
  · exact ref_of s hs b off cap l hv.bytes hv.len w hc

theorem refsum_rd (v : Value) (l : List Int) (w : World) (hv : Rd w v l) :
    Calls Tryz.prog 60 #[v] w fun e w' => e = .returned (.int .u32 (Crc.more 0 l : Nat)) ∧ w' = w := by
  go_enter Tryz.func60, Tryz.ntmps60
  go_wp2_with (go_at_call 80; refine (ref_rd 0 (by decide) v l _ hv).mono ?_; rintro e w1 ⟨rfl, rfl⟩)
  go_ret
  exact ⟨rfl, rfl⟩
end Go.Proofs.YtapdhkgeolcogaaGreatDoor.Cd
