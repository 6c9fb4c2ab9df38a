/- What calls leave of the world: nothing old has turned. -/
import Derived.Test.YteiiapnpdfgoaaaDoorRows
import Derived.Test.YteiiapnpdfgoaaaDoorVMath
import Derived.WalkKit
import Derived.WalkSpells
import Derived.WalkLawsBesides
import Derived.Laws.AppendOwn
import Derived.Below
import Derived.Deep.Light
namespace Go.Proofs.YteiiapnpdfgoaaaDoor
open Go.RowKit

theorem ret_int {k : IntKind} {a b : Int} (h : a = b) : Ending.returned (.int k a) = .returned (.int k b) := by rw [h]
theorem ret_bool {a b : Bool} (h : a = b) : Ending.returned (.bool a) = .returned (.bool b) := by rw [h]
theorem val_int {k : IntKind} {a b : Int} (h : a = b) : Value.int k a = .int k b := by rw [h]

theorem grown_refl (w : World) (row : Option Nat) : w.grownBy w row := ⟨rfl, rfl, rfl, Nat.le_refl _, fun _ _ _ => rfl⟩
theorem grown_more {w w1 w2 : World} {r r1 : Option Nat} (h : w.grownBy w1 r) (k : w1.grownBy w2 r1) (hr : ∀ b, r1 = some b → r = some b ∨ w.heap.size ≤ b) : w.grownBy w2 r :=
  ⟨k.os.trans h.os, k.tape.trans h.tape, k.output.trans h.output, Nat.le_trans h.size k.size, fun j hj hn => by
    have h1 := h.size
    rw [k.block j (by omega) (fun e => by rcases hr j e.symm with h' | h'; exact hn h'.symm; omega)]
    exact h.block j hj hn⟩
theorem grown_alloc {w w1 : World} {r : Option Nat} (h : w.grownBy w1 r) (o : Obj) : w.grownBy (w1.alloc o) r :=
  grown_more h (World.grownBy_alloc w1 o none) (by simp)
theorem grown_below {w w1 : World} (h : w.grownBy w1 none) : Below w.heap.size w w1 :=
  ⟨h.os, h.tape, h.output, h.size, fun k hk => h.block k hk (by simp)⟩
theorem grown_drewN {w w' : World} {r : Option Nat} (h : w.grownBy w' r) (n : Nat) : w.grownBy (w'.drewN n) r := ⟨h.os, h.tape, h.output, h.size, h.block⟩
/-- A cell of a block that was laid, behind calls that turn nothing old. -/
theorem cell_kept {w w1 : World} {C : Array Value} {t : TypeId} (hg : (w.alloc (.cells C t)).grownBy w1 none) (i : Nat) (v : Value) (h : C[i]? = some v) : w1.cell? ⟨w.heap.size, i, none⟩ = some v :=
  hg.cell (by rw [World.cell?_alloc_new]; exact h) (by simp)
theorem six_kept {w w1 : World} {a b c d e f : Value} {t : TypeId} (hg : (w.alloc (.cells #[a, b, c, d, e, f] t)).grownBy w1 none) :
    w1.cell? ⟨w.heap.size, 0, none⟩ = some a ∧ w1.cell? ⟨w.heap.size, 1, none⟩ = some b ∧ w1.cell? ⟨w.heap.size, 2, none⟩ = some c ∧
    w1.cell? ⟨w.heap.size, 3, none⟩ = some d ∧ w1.cell? ⟨w.heap.size, 4, none⟩ = some e ∧ w1.cell? ⟨w.heap.size, 5, none⟩ = some f :=
  ⟨cell_kept hg 0 a rfl, cell_kept hg 1 b rfl, cell_kept hg 2 c rfl, cell_kept hg 3 d rfl, cell_kept hg 4 e rfl, cell_kept hg 5 f rfl⟩
theorem frozen_kept {w w1 : World} {C : Array Value} {t : TypeId} (hg : (w.alloc (.cells C t)).grownBy w1 none) (i : Nat) : w1.frozen? ⟨w.heap.size, i, none⟩ = false := by
  rw [World.frozen?_of_block (w := w.alloc (.cells C t)) (hg.block w.heap.size (by simp) (by simp))]
  simp
theorem size_kept {w w1 : World} {o : Obj} (hg : (w.alloc o).grownBy w1 none) : w.heap.size < w1.heap.size := by
  have := hg.size
  simp at this
  omega
theorem grown_set (w : World) (p : Addr) (u : Value) : w.grownBy (w.setCell p u) (some p.block) :=
  ⟨rfl, rfl, rfl, by simp [World.setCell], fun k _ hr => Below.heap_setCell _ _ _ _ (fun e => hr (by rw [e]))⟩
theorem grown_set_new {w w1 : World} {r : Option Nat} (h : w.grownBy w1 r) (p : Addr) (hp : w.heap.size ≤ p.block) (u : Value) : w.grownBy (w1.setCell p u) r :=
  grown_more h (grown_set w1 p u) (fun b e => .inr (by injection e with e; omega))
end Go.Proofs.YteiiapnpdfgoaaaDoor
