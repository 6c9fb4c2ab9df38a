/- What 'fill' does: the 256 steps are made; nothing else is written. -/
import Derived.Test.YtapdhkgeolcogaaGreatDoorGb
import Derived.Deep.RegionWith
namespace Go.Proofs.YtapdhkgeolcogaaGreatDoor.Cd
open Go.RowKit

theorem grown_refl (w : World) (row : Option Nat) : w.grownBy w row := ⟨rfl, rfl, rfl, Nat.le_refl _, fun _ _ _ => rfl⟩
theorem grown_trans {a b c : World} {row : Option Nat} (h : a.grownBy b row) (k : b.grownBy c row) : a.grownBy c row :=
  ⟨k.os.trans h.os, k.tape.trans h.tape, k.output.trans h.output, Nat.le_trans h.size k.size,
    fun i hi hr => (k.block i (Nat.lt_of_lt_of_le hi h.size) hr).trans (h.block i hi hr)⟩
theorem grown_set (w : World) (p : Addr) (u : Value) : w.grownBy (w.setCell p u) (some p.block) :=
  ⟨rfl, rfl, rfl, by simp [World.setCell], fun k _ hr => Below.heap_setCell _ _ _ _ (fun e => hr (by rw [e]))⟩
theorem grown_drew {a b : World} {row : Option Nat} (h : a.grownBy b row) : a.grownBy b.drew row := ⟨h.os, h.tape, h.output, h.size, h.block⟩
theorem size_set (w : World) (p : Addr) (u : Value) : (w.setCell p u).heap.size = w.heap.size := by simp [World.setCell]

/-- The table's first k steps are made; all else is as it was. -/
structure FillTo (w w' : World) (b k : Nat) : Prop where
  grown : w.grownBy w' (some b)
  size : w'.heap.size = w.heap.size
  head : ∀ j, j < 3 → w'.cell? ⟨b, j, none⟩ = w.cell? ⟨b, j, none⟩
  done : ∀ i, i < k → w'.cell? ⟨b, 3 + i, none⟩ = some (.int .u32 (Crc.shN 8 i : Nat))
  rest : ∀ i, i < 256 → ∃ z, w'.cell? ⟨b, 3 + i, none⟩ = some (.int .u32 z)
  frozen : ∀ p, w'.frozen? p = w.frozen? p

theorem FillTo.zero {w : World} {b : Nat} (hs : ∀ i, i < 256 → ∃ z, w.cell? ⟨b, 3 + i, none⟩ = some (.int .u32 z)) : FillTo w w b 0 :=
  ⟨grown_refl _ _, rfl, fun _ _ => rfl, fun i hi => by omega, hs, fun _ => rfl⟩

theorem FillTo.step {w wr : World} {b k : Nat} (h : FillTo w wr b k) (hk : k < 256) :
    FillTo w (wr.setCell ⟨b, 3 + k, none⟩ (.int .u32 (Crc.shN 8 k : Nat))).drew b (k + 1) := by
  obtain ⟨z, hz⟩ := h.rest k hk
  have same : (wr.setCell ⟨b, 3 + k, none⟩ (.int .u32 (Crc.shN 8 k : Nat))).cell? ⟨b, 3 + k, none⟩ = some (.int .u32 (Crc.shN 8 k : Nat)) := World.cell?_setCell_same _ _ _ hz
  have other : ∀ j, j ≠ 3 + k → (wr.setCell ⟨b, 3 + k, none⟩ (.int .u32 (Crc.shN 8 k : Nat))).cell? ⟨b, j, none⟩ = wr.cell? ⟨b, j, none⟩ := fun j hj =>
    World.cell?_setCell_other _ _ _ _ (fun e => hj (by injection e with _ e2 _; exact e2.symm))
  refine ⟨grown_drew (grown_trans h.grown (grown_set _ _ _)), (size_set _ _ _).trans h.size, fun j hj => ?_, fun i hi => ?_, fun i hi => ?_, fun p => ?_⟩
  · rw [World.cell?_drew, other j (by omega)]; exact h.head j hj
  · rw [World.cell?_drew]
    by_cases e : i = k
    · subst e; exact same
    · rw [other _ (by omega)]; exact h.done i (by omega)
  · rw [World.cell?_drew]
    by_cases e : i = k
    · subst e; exact ⟨_, same⟩
    · rw [other _ (by omega)]; exact h.rest i hi
  · rw [World.frozen?_drew, World.frozen?_setCell]; exact h.frozen p

set_option maxRecDepth 100000 in
set_option maxHeartbeats 400000 in
theorem fill_any (b : Nat) (w : World) (hs : ∀ i, i < 256 → ∃ z, w.cell? ⟨b, 3 + i, none⟩ = some (.int .u32 z)) (hfree : ∀ j, w.frozen? ⟨b, j, none⟩ = false) :
    Calls Tryz.prog 158 #[.pointer (some ⟨b, 0, none⟩)] w fun e w' => e = .returned (.tuple #[]) ∧ FillTo w w' b 256 := by
  go_enter Tryz.func158, Tryz.ntmps158
  go_wp2
  go_loopw [3] (fun i wr => ∃ k : Nat, k ≤ 256 ∧ i = .int .i64 k ∧ FillTo w wr b k) (fun i _ => 256 - (intOf i).toNat)
  case atStart => exact ⟨0, by omega, rfl, FillTo.zero hs⟩
  case round =>
    obtain ⟨k, hk, rfl, hF⟩ := hrel
    by_cases hlk : k < 256
    · obtain ⟨z, hz⟩ := hF.rest k hlk
      have hfr : wr.frozen? ⟨b, 3 + k, none⟩ = false := by rw [hF.frozen]; exact hfree _
      have h32 : k < 4294967296 := by omega
      go_wp2
      go_region_with (go_at_call 170; refine (shift_wrapped k h32 _).mono ?_; rintro e w' ⟨rfl, rfl⟩)
      all_goals
        go_wp2
        go_roundw
        case rel => exact ⟨k + 1, by omega, by go_num, hF.step hlk⟩
        case measure => simp [intOf]; omega
    · obtain rfl : k = 256 := by omega
      go_wp2
      go_end0
      exact ⟨rfl, hF⟩
end Go.Proofs.YtapdhkgeolcogaaGreatDoor.Cd
