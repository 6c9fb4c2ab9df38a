/- What 'shift' answers: the register behind eight shifts; nothing is written. What 'New' makes: a table whose Once is not done, whose lock is free, all steps nought; and what it is to be such a table, and one whose steps are made. -/
import Derived.Test.YtapdhkgeolcogaaGreatDoorRows
import Derived.Test.YtapdhkgeolcogaaGreatDoorGa
import Derived.WalkKit
import Derived.WalkSpells
import Derived.WalkLawsBesides
namespace Go.Proofs.YtapdhkgeolcogaaGreatDoor.Cd
open Go.RowKit

theorem ret_int {k : IntKind} {a b : Int} (h : a = b) : Ending.returned (.int k a) = .returned (.int k b) := by rw [h]
theorem val_int {k : IntKind} {a b : Int} (h : a = b) : Value.int k a = .int k b := by rw [h]

set_option maxHeartbeats 400000 in
theorem shift_any (n : Nat) (hn : n < 4294967296) (w : World) :
    Calls Tryz.prog 170 #[.int .u32 n] w fun e w' => e = .returned (.int .u32 (Crc.shN 8 n : Nat)) ∧ w' = w := by
  go_enter Tryz.func170, Tryz.ntmps170
  go_wp2
  go_loop [0, 4] (fun r i => ∃ k : Nat, k ≤ 8 ∧ i = .int .i64 k ∧ r = .int .u32 (Crc.shN k n : Nat)) (fun _ i => 8 - (intOf i).toNat)
  case atStart => exact ⟨0, by omega, rfl, rfl⟩
  case round =>
    obtain ⟨k, hk, rfl, rfl⟩ := hrel
    have hlt := Crc.shN_lt k hn
    by_cases hlk : k < 8
    · go_wp2
      all_goals
        go_round
        case rel => exact ⟨k + 1, by omega, by go_num, val_int (by first | exact Crc.shift_hit _ hlt ‹_› | exact Crc.shift_miss _ hlt ‹_›)⟩
        case measure => simp [intOf]; omega
    · go_wp2
      obtain rfl : k = 8 := by omega
      go_ret
      exact ⟨rfl, rfl⟩
theorem shift_wrapped (n : Nat) (hn : n < 4294967296) (w : World) :
    Calls Tryz.prog 170 #[.int .u32 (IntKind.u32.wrap n)] w fun e w' => e = .returned (.int .u32 (Crc.shN 8 n : Nat)) ∧ w' = w := by
  have h : IntKind.u32.wrap (n : Int) = n := by rw [IntKind.wrap_u32']; omega
  rw [h]
  exact shift_any n hn w
end Go.Proofs.YtapdhkgeolcogaaGreatDoor.Cd
namespace Go.Proofs.YtapdhkgeolcogaaGreatDoor.Cd
open Go.RowKit

/-- The cells of a new table: the Once's word, the lock's two, 256 steps. -/
def tab0 : Array Value := #[.int .u32 0, .int .i32 0, .int .u32 0] ++ Array.replicate 256 (.int .u32 0)
theorem tab0_size : tab0.size = 259 := by simp [tab0]
theorem zero49 (w : World) : (zeroValue 168).run Tryz.prog w = .ok (.agg tab0) w := by kernel_rfl

theorem new_any (w : World) :
    Calls Tryz.prog 78 #[] w fun e w' => e = .returned (.pointer (some ⟨w.heap.size, 0, none⟩)) ∧ w' = w.alloc (.cells tab0 168) := by
  have hz := zero49
  go_enter Tryz.func78, Tryz.ntmps78
  go_wp2
  go_ret
  exact ⟨rfl, rfl⟩

/-- A table that was never asked. -/
structure Fresh (w : World) (b : Nat) : Prop where
  done : w.cell? ⟨b, 0, none⟩ = some (.int .u32 0)
  lock : w.cell? ⟨b, 1, none⟩ = some (.int .i32 0)
  steps : ∀ i, i < 256 → ∃ z, w.cell? ⟨b, 3 + i, none⟩ = some (.int .u32 z)
  free : ∀ j, w.frozen? ⟨b, j, none⟩ = false

/-- A table whose steps are made. -/
structure Ready (w : World) (b : Nat) : Prop where
  done : w.cell? ⟨b, 0, none⟩ = some (.int .u32 1)
  steps : ∀ i, i < 256 → w.cell? ⟨b, 3 + i, none⟩ = some (.int .u32 (Crc.shN 8 i : Nat))

theorem Ready.grown {w w' : World} {b : Nat} {row : Option Nat} (h : Ready w b) (g : w.grownBy w' row) (hr : some b ≠ row) : Ready w' b :=
  ⟨g.cell h.done hr, fun i hi => g.cell (h.steps i hi) hr⟩
theorem Fresh.lt {w : World} {b : Nat} (h : Fresh w b) : b < w.heap.size := World.block_lt_of_cell? w ⟨b, 0, none⟩ h.done
theorem Ready.lt {w : World} {b : Nat} (h : Ready w b) : b < w.heap.size := World.block_lt_of_cell? w ⟨b, 0, none⟩ h.done
theorem Fresh.grown {w w' : World} {b : Nat} {row : Option Nat} (h : Fresh w b) (g : w.grownBy w' row) (hr : some b ≠ row) : Fresh w' b :=
  ⟨g.cell h.done hr, g.cell h.lock hr, fun i hi => (h.steps i hi).imp fun _ hz => g.cell hz hr, fun j => (World.frozen?_of_block (g.block b h.lt hr)).trans (h.free j)⟩

theorem tab0_head (j : Nat) (h : j < 3) : tab0[j]? = #[Value.int .u32 0, .int .i32 0, .int .u32 0][j]? := by
  unfold tab0
  rw [Array.getElem?_append_left (by simpa using h)]
theorem tab0_step (i : Nat) (h : i < 256) : tab0[3 + i]? = some (.int .u32 0) := by
  unfold tab0
  rw [Array.getElem?_append_right (by simp)]
  simp [show 3 + i - 3 = i by omega, h]

theorem fresh_new (w : World) : Fresh (w.alloc (.cells tab0 168)) w.heap.size :=
  ⟨by rw [World.cell?_alloc_new, tab0_head 0 (by omega)]; rfl, by rw [World.cell?_alloc_new, tab0_head 1 (by omega)]; rfl,
    fun i hi => ⟨0, by rw [World.cell?_alloc_new, tab0_step i hi]⟩, fun j => World.frozen?_alloc_new _ _ _ _⟩
end Go.Proofs.YtapdhkgeolcogaaGreatDoor.Cd
