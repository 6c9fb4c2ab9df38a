/- What 'New' makes: a table whose Once is not done, whose lock is free, all steps nought; and what it is to be such a table, and one whose steps are made. -/
import Derived.Test.YtmolldednpdicaaShift
namespace Go.Proofs.Ytmolldednpdicaa
open Go.RowKit

/-- The cells of a new table: the Once's word, the lock's two, 256 steps. -/
def tab0 : Array Value := #[.int .u32 0, .int .i32 0, .int .u32 0] ++ Array.replicate 256 (.int .u32 0)
theorem tab0_size : tab0.size = 259 := by simp [tab0]
theorem zero49 (w : World) : (zeroValue 72).run Try.prog w = .ok (.agg tab0) w := by kernel_rfl

theorem new_any (w : World) :
    Calls Try.prog 24 #[] w fun e w' => e = .returned (.pointer (some ⟨w.heap.size, 0, none⟩)) ∧ w' = w.alloc (.cells tab0 72) := by
  have hz := zero49
  go_enter Try.func24, Try.ntmps24
  go_wp2
  go_ret
  exact ⟨rfl, rfl⟩

/-- A table that was never asked. -/
structure Fresh (w : World) (b : Nat) : Prop where
  done : w.cell? ⟨b, 0, none⟩ = some (.int .u32 0)
  lock : w.cell? ⟨b, 1, none⟩ = some (.int .i32 0)
  steps : ∀ i, i < 256 → ∃ z, w.cell? ⟨b, 3 + i, none⟩ = some (.int .u32 z)
  free : ∀ j, w.frozen? ⟨b, j, none⟩ = false

/-- A table whose steps are made. -/
structure Ready (w : World) (b : Nat) : Prop where
  done : w.cell? ⟨b, 0, none⟩ = some (.int .u32 1)
  steps : ∀ i, i < 256 → w.cell? ⟨b, 3 + i, none⟩ = some (.int .u32 (Crc.shN 8 i : Nat))

theorem Ready.grown {w w' : World} {b : Nat} {row : Option Nat} (h : Ready w b) (g : w.grownBy w' row) (hr : some b ≠ row) : Ready w' b :=
  ⟨g.cell h.done hr, fun i hi => g.cell (h.steps i hi) hr⟩
theorem Fresh.lt {w : World} {b : Nat} (h : Fresh w b) : b < w.heap.size := World.block_lt_of_cell? w ⟨b, 0, none⟩ h.done
theorem Ready.lt {w : World} {b : Nat} (h : Ready w b) : b < w.heap.size := World.block_lt_of_cell? w ⟨b, 0, none⟩ h.done
theorem Fresh.grown {w w' : World} {b : Nat} {row : Option Nat} (h : Fresh w b) (g : w.grownBy w' row) (hr : some b ≠ row) : Fresh w' b :=
  ⟨g.cell h.done hr, g.cell h.lock hr, fun i hi => (h.steps i hi).imp fun _ hz => g.cell hz hr, fun j => (World.frozen?_of_block (g.block b h.lt hr)).trans (h.free j)⟩

theorem tab0_head (j : Nat) (h : j < 3) : tab0[j]? = #[Value.int .u32 0, .int .i32 0, .int .u32 0][j]? := by
  unfold tab0
  rw [Array.getElem?_append_left (by simpa using h)]
theorem tab0_step (i : Nat) (h : i < 256) : tab0[3 + i]? = some (.int .u32 0) := by
  unfold tab0
  rw [Array.getElem?_append_right (by simp)]
  simp [show 3 + i - 3 = i by omega, h]

theorem fresh_new (w : World) : Fresh (w.alloc (.cells tab0 72)) w.heap.size :=
  ⟨by rw [World.cell?_alloc_new, tab0_head 0 (by omega)]; rfl, by rw [World.cell?_alloc_new, tab0_head 1 (by omega)]; rfl,
    fun i hi => ⟨0, by rw [World.cell?_alloc_new, tab0_step i hi]⟩, fun j => World.frozen?_alloc_new _ _ _ _⟩
end Go.Proofs.Ytmolldednpdicaa
