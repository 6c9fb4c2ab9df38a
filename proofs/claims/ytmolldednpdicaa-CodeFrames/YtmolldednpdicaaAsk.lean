/- What asking a table does: the first time the steps are made, later nothing is done. -/
import Derived.Test.YtmolldednpdicaaOnce
namespace Go.Proofs.Ytmolldednpdicaa
open Go.RowKit

/-- The table b is made; nothing but its block has turned, and no block is new. -/
structure Made (w w' : World) (b : Nat) : Prop where
  grown : w.grownBy w' (some b)
  size : w'.heap.size = w.heap.size
  ready : Ready w' b
  frozen : ∀ p, w'.frozen? p = w.frozen? p

theorem other_off {b i j : Nat} (h : i ≠ j) : (⟨b, i, none⟩ : Addr) ≠ ⟨b, j, none⟩ := fun e => h (by injection e)

theorem made_of {w w2 : World} {b : Nat} (h : Fresh w b) (hF : FillTo (w.setCell ⟨b, 1, none⟩ (.int .i32 1)) w2 b 256) :
    Made w ((w2.setCell ⟨b, 0, none⟩ (.int .u32 1)).drew.setCell ⟨b, 1, none⟩ (.int .i32 0)) b := by
  have c0 : w2.cell? ⟨b, 0, none⟩ = some (.int .u32 0) := by rw [hF.head 0 (by omega), World.cell?_setCell_other _ _ _ _ (other_off (by omega))]; exact h.done
  refine ⟨?_, ?_, ⟨?_, fun i hi => ?_⟩, fun p => ?_⟩
  · exact grown_trans (grown_trans (grown_set w ⟨b, 1, none⟩ _) hF.grown) (grown_trans (grown_drew (grown_set _ ⟨b, 0, none⟩ _)) (grown_set _ ⟨b, 1, none⟩ _))
  · rw [size_set]; show (w2.setCell _ _).heap.size = _; rw [size_set, hF.size, size_set]
  · rw [World.cell?_setCell_other _ _ _ _ (other_off (by omega)), World.cell?_drew]; exact World.cell?_setCell_same _ _ _ c0
  · rw [World.cell?_setCell_other _ _ _ _ (other_off (by omega)), World.cell?_drew, World.cell?_setCell_other _ _ _ _ (other_off (by omega))]; exact hF.done i hi
  · rw [World.frozen?_setCell, World.frozen?_drew, World.frozen?_setCell, hF.frozen, World.frozen?_setCell]

set_option maxRecDepth 100000 in
set_option maxHeartbeats 1600000 in
theorem slow_first (b : Nat) (w : World) (h : Fresh w b) :
    Calls Try.prog 43 #[.pointer (some ⟨b, 0, none⟩), .func (.func 41) #[.pointer (some ⟨b, 0, none⟩)] #[]] w fun e w' => e = .returned (.tuple #[]) ∧ Made w w' b := by
  have h0 := h.done
  have h1 := h.lock
  have f1 := h.free 1
  have hl := run_call_load (P := Try.prog) Try.func45 (by kernel_rfl) (by kernel_rfl) (by kernel_rfl) .u32 (by kernel_rfl) (w := w.setCell ⟨b, 1, none⟩ (.int .i32 1)) (a := ⟨b, 0, none⟩) (x := 0) ((World.cell?_setCell_other _ ⟨b, 1, none⟩ ⟨b, 0, none⟩ _ (by simp)).trans h0)
  have hnot : ∀ (x : Bool) (w : World), (Op.unary .not (.bool x)).run Try.prog w = .ok (.bool (!x)) w := fun _ _ => rfl
  have hs : ∀ i, i < 256 → ∃ z, (w.setCell ⟨b, 1, none⟩ (.int .i32 1)).cell? ⟨b, 3 + i, none⟩ = some (.int .u32 z) := fun i hi => (h.steps i hi).imp fun z hz => (World.cell?_setCell_other _ _ _ _ (other_off (by omega))).trans hz
  have hfree : ∀ j, (w.setCell ⟨b, 1, none⟩ (.int .i32 1)).frozen? ⟨b, j, none⟩ = false := fun j => by rw [World.frozen?_setCell]; exact h.free j
  have HS := fill_any b _ hs hfree
  clear hs hfree
  go_enter_defers Try.func43, Try.ntmps43
  go_wp2_with (first | (go_at_call 46; refine (lock_free ⟨b, 1, none⟩ _ h1 f1).mono ?_; rintro e w' ⟨rfl, rfl⟩) | (go_at_call 42; go_in) | (go_at_call 41; refine HS.mono ?_; rintro e w2 ⟨rfl, hF⟩))
  -- the door: two deferred calls, the last laid first
  have c0 : w2.cell? ⟨b, 0, none⟩ = some (.int .u32 0) := by rw [hF.head 0 (by omega), World.cell?_setCell_other _ _ _ _ (other_off (by omega))]; exact h0
  have c1 : w2.cell? ⟨b, 1, none⟩ = some (.int .i32 1) := by rw [hF.head 1 (by omega)]; exact World.cell?_setCell_same _ _ _ h1
  have z0 : w2.frozen? ⟨b, 0, none⟩ = false := by rw [hF.frozen, World.frozen?_setCell]; exact h.free 0
  have z1 : w2.frozen? ⟨b, 1, none⟩ = false := by rw [hF.frozen, World.frozen?_setCell]; exact h.free 1
  have hM := made_of h hF
  refine leaves_cons (f := 48) (args := #[.pointer (some ⟨b, 0, none⟩), .bool true]) (by simp) (by simp [go_sem]) ?_
  refine (store_deferred ⟨b, 0, none⟩ (.int .u32 0) .returning _ c0 z0).mono ?_
  rintro e u' w'' ⟨rfl, rfl, rfl⟩
  refine leaves_cons (f := 47) (args := #[.pointer (some ⟨b, 1, none⟩)]) (by simp [settle]) (by simp [go_sem]) ?_
  refine (unlock_deferred ⟨b, 1, none⟩ _ _ ?_ ?_).mono ?_
  · rw [World.cell?_drew, World.cell?_setCell_other _ _ _ _ (other_off (by omega))]; exact c1
  · rw [World.frozen?_drew, World.frozen?_setCell]; exact z1
  rintro e u' w'' ⟨rfl, rfl, rfl⟩
  simp [Leaves, settle, results, Try.results43]
  exact hM

set_option maxRecDepth 100000 in
set_option maxHeartbeats 1600000 in
theorem do_first (b : Nat) (w : World) (h : Fresh w b) :
    Calls Try.prog 40 #[.pointer (some ⟨b, 0, none⟩), .func (.func 41) #[.pointer (some ⟨b, 0, none⟩)] #[]] w fun e w' => e = .returned (.tuple #[]) ∧ Made w w' b := by
  have hl := run_call_load (P := Try.prog) Try.func45 (by kernel_rfl) (by kernel_rfl) (by kernel_rfl) .u32 (by kernel_rfl) h.done
  have hnot : ∀ (x : Bool) (w : World), (Op.unary .not (.bool x)).run Try.prog w = .ok (.bool (!x)) w := fun _ _ => rfl
  go_enter Try.func40, Try.ntmps40
  go_wp2_with (first | (go_at_call 43; refine (slow_first b _ h).mono ?_; rintro e w' ⟨rfl, hM⟩) | (go_at_call 42; go_in))
  go_end0
  exact ⟨rfl, hM⟩

theorem do_done (b : Nat) (fv : Value) (w : World) (h : Ready w b) :
    Calls Try.prog 40 #[.pointer (some ⟨b, 0, none⟩), fv] w fun e w' => e = .returned (.tuple #[]) ∧ w' = w := by
  have hl := run_call_load (P := Try.prog) Try.func45 (by kernel_rfl) (by kernel_rfl) (by kernel_rfl) .u32 (by kernel_rfl) h.done
  have hnot : ∀ (x : Bool) (w : World), (Op.unary .not (.bool x)).run Try.prog w = .ok (.bool (!x)) w := fun _ _ => rfl
  go_enter Try.func40, Try.ntmps40
  go_wp2
  go_end0
  exact ⟨rfl, rfl⟩

/-- Asked the first time. -/
theorem ask_first (b : Nat) (w : World) (h : Fresh w b) :
    Calls Try.prog 37 #[.pointer (some ⟨b, 0, none⟩)] w fun e w' => e = .returned (.pointer (some ⟨b, 3, none⟩)) ∧ Made w w' b := by
  have hmf : ∀ (fn : Fn) (first cap : Array Value) (w : World), (Instr.makeFunc fn first cap).run Try.prog w = .ok (.func fn first cap) w := fun _ _ _ _ => rfl
  go_enter Try.func37, Try.ntmps37
  go_wp2_with (go_at_call 40; refine (do_first b _ h).mono ?_; rintro e w' ⟨rfl, hM⟩)
  go_ret
  exact ⟨rfl, hM⟩

/-- Asked again. -/
theorem ask_again (b : Nat) (w : World) (h : Ready w b) :
    Calls Try.prog 37 #[.pointer (some ⟨b, 0, none⟩)] w fun e w' => e = .returned (.pointer (some ⟨b, 3, none⟩)) ∧ w' = w := by
  have hmf : ∀ (fn : Fn) (first cap : Array Value) (w : World), (Instr.makeFunc fn first cap).run Try.prog w = .ok (.func fn first cap) w := fun _ _ _ _ => rfl
  go_enter Try.func37, Try.ntmps37
  go_wp2_with (go_at_call 40; refine (do_done b _ _ h).mono ?_; rintro e w' ⟨rfl, rfl⟩)
  go_ret
  exact ⟨rfl, rfl⟩
end Go.Proofs.Ytmolldednpdicaa
