/- What calls leave of the world. Rows of elements: a slice of its own, one that is read, what is appended, cut and looked up. -/
import Derived.Test.YtdpcebaggldaiaaProg
import Derived.WalkKit
import Derived.WalkSpells
import Derived.WalkLawsBesides
import Derived.Laws.AppendOwn
import Derived.Laws.AppendOwnNone
import Derived.Maps.AppendAt
import Derived.Maps.RangeWalk
import Derived.Sort.MapsRangeIn
import Derived.Below
import Derived.Deep.Light
import Derived.Deep.QuietTactic
import Derived.Deep.RegionWith
import Derived.Deep.RegionLaw
import Derived.BigQuiet
import Derived.BigRegion
import Derived.StillTailTactics
import Derived.Sort.Grow
import Derived.Sort.Row
namespace Go.Proofs.Ytdpcebaggldaiaa
open Go.RowKit
set_option linter.unusedVariables false

theorem ret_int {k : IntKind} {a b : Int} (h : a = b) : Ending.returned (.int k a) = .returned (.int k b) := by rw [h]
theorem ret_bool {a b : Bool} (h : a = b) : Ending.returned (.bool a) = .returned (.bool b) := by rw [h]
theorem val_int {k : IntKind} {a b : Int} (h : a = b) : Value.int k a = .int k b := by rw [h]
theorem grown_refl (w : World) (row : Option Nat) : w.grownBy w row := ⟨rfl, rfl, rfl, Nat.le_refl _, fun _ _ _ => rfl⟩
theorem grown_more {w w1 w2 : World} {r r1 : Option Nat} (h : w.grownBy w1 r) (k : w1.grownBy w2 r1) (hr : ∀ b, r1 = some b → r = some b ∨ w.heap.size ≤ b) : w.grownBy w2 r :=
  ⟨k.os.trans h.os, k.tape.trans h.tape, k.output.trans h.output, Nat.le_trans h.size k.size, fun j hj hn => by
    have h1 := h.size
    rw [k.block j (by omega) (fun e => by rcases hr j e.symm with h' | h'; exact hn h'.symm; omega)]
    exact h.block j hj hn⟩
theorem grown_alloc {w w1 : World} {r : Option Nat} (h : w.grownBy w1 r) (o : Obj) : w.grownBy (w1.alloc o) r :=
  grown_more h (World.grownBy_alloc w1 o none) (by simp)
theorem grown_tr {w w1 w2 : World} (h : w.grownBy w1 none) (k : w1.grownBy w2 none) : w.grownBy w2 none := grown_more h k (by simp)
theorem grown_below {w w1 : World} (h : w.grownBy w1 none) : Below w.heap.size w w1 :=
  ⟨h.os, h.tape, h.output, h.size, fun k hk => h.block k hk (by simp)⟩
theorem grown_drewN {w w' : World} {r : Option Nat} (h : w.grownBy w' r) (n : Nat) : w.grownBy (w'.drewN n) r := ⟨h.os, h.tape, h.output, h.size, h.block⟩
theorem grown_drew {w w' : World} {r : Option Nat} (h : w.grownBy w' r) : w.grownBy w'.drew r := ⟨h.os, h.tape, h.output, h.size, h.block⟩
theorem cell_kept {w w1 : World} {C : Array Value} {t : TypeId} (hg : (w.alloc (.cells C t)).grownBy w1 none) (i : Nat) (v : Value) (h : C[i]? = some v) : w1.cell? ⟨w.heap.size, i, none⟩ = some v :=
  hg.cell (by rw [World.cell?_alloc_new]; exact h) (by simp)
theorem frozen_kept {w w1 : World} {C : Array Value} {t : TypeId} (hg : (w.alloc (.cells C t)).grownBy w1 none) (i : Nat) : w1.frozen? ⟨w.heap.size, i, none⟩ = false := by
  rw [World.frozen?_of_block (w := w.alloc (.cells C t)) (hg.block w.heap.size (by simp) (by simp))]
  simp
theorem grown_set (w : World) (p : Addr) (u : Value) : w.grownBy (w.setCell p u) (some p.block) :=
  ⟨rfl, rfl, rfl, by simp [World.setCell], fun k _ hr => Below.heap_setCell _ _ _ _ (fun e => hr (by rw [e]))⟩
theorem size_set (w : World) (p : Addr) (u : Value) : (w.setCell p u).heap.size = w.heap.size := by simp [World.setCell]

/-- Of what lay in w nothing has turned but what F says. -/
structure Chg (F : Nat → Prop) (w w' : World) : Prop where
  os : w'.os = w.os
  tape : w'.tape = w.tape
  output : w'.output = w.output
  size : w.heap.size ≤ w'.heap.size
  block : ∀ k, k < w.heap.size → ¬ F k → w'.heap[k]? = w.heap[k]?
theorem Chg.refl (F : Nat → Prop) (w : World) : Chg F w w := ⟨rfl, rfl, rfl, Nat.le_refl _, fun _ _ _ => rfl⟩
theorem Chg.trans {F G : Nat → Prop} {w w1 w2 : World} (h : Chg F w w1) (k : Chg G w1 w2) (hG : ∀ b, G b → F b ∨ w.heap.size ≤ b) : Chg F w w2 :=
  ⟨k.os.trans h.os, k.tape.trans h.tape, k.output.trans h.output, Nat.le_trans h.size k.size, fun j hj hn => by
    have h1 := h.size
    rw [k.block j (by omega) (fun e => by rcases hG j e with h' | h'; exact hn h'; omega)]
    exact h.block j hj hn⟩
theorem Chg.of {F : Nat → Prop} {w w' : World} {row : Option Nat} (h : w.grownBy w' row) (hF : ∀ k, row = some k → F k) : Chg F w w' :=
  ⟨h.os, h.tape, h.output, h.size, fun k hk hn => h.block k hk (fun e => hn (hF k e.symm))⟩
theorem Chg.grown {F : Nat → Prop} {w w1 w2 : World} {row : Option Nat} (h : Chg F w w1) (k : w1.grownBy w2 row) (hr : ∀ b, row = some b → F b ∨ w.heap.size ≤ b) : Chg F w w2 :=
  h.trans (Chg.of (F := fun b => row = some b) k (fun _ e => e)) hr
theorem Chg.none {w w' : World} (h : Chg (fun _ => False) w w') : w.grownBy w' none := ⟨h.os, h.tape, h.output, h.size, fun k hk _ => h.block k hk id⟩
theorem Chg.below {F : Nat → Prop} {B : Nat} {w w' : World} (h : Chg F w w') (hB : B ≤ w.heap.size) (hF : ∀ k, F k → B ≤ k) : Below B w w' :=
  ⟨h.os, h.tape, h.output, h.size, fun k hk => h.block k (by omega) (fun e => by have := hF k e; omega)⟩
theorem Chg.cell {F : Nat → Prop} {w w' : World} (h : Chg F w w') {a : Addr} {v : Value} (hc : w.cell? a = some v) (hF : ¬ F a.block) : w'.cell? a = some v :=
  (World.cell?_of_block (h.block a.block (World.block_lt_of_cell? w a hc) hF)).trans hc
theorem Chg.frozen {F : Nat → Prop} {w w' : World} (h : Chg F w w') {a : Addr} (ha : a.block < w.heap.size) (hF : ¬ F a.block) : w'.frozen? a = w.frozen? a :=
  World.frozen?_of_block (h.block a.block ha hF)
theorem Chg.owns {F : Nat → Prop} {w w' : World} {base : Nat} {e : TypeId} {size : Nat} {v : Value} {n : Nat} {xs : List Value} (h : Chg F w w') (ho : w.ownsRow base e size v n xs) (hF : ∀ k, v.ownBlock = some k → ¬ F k) : w'.ownsRow base e size v n xs := by
  refine ⟨ho.1, ?_⟩
  rcases ho.2 with k | ⟨g, cap, cur, rfl, hg, hh, r⟩
  · exact .inl k
  · exact .inr ⟨g, cap, cur, rfl, hg, (h.block g (Array.getElem?_eq_some_iff.1 hh).1 (hF g rfl)).trans hh, r⟩
theorem Chg.maps {F : Nat → Prop} {w w' : World} {P : Program} {k : TypeId} {H : Type} {R : Value → Option (DataW H × List MemPlace)} {b n : Nat} {D : DataW H} (h : Chg F w w') (ho : w.ownsMap P k R b n D) (hF : ¬ F b) : w'.ownsMap P k R b n D := by
  obtain ⟨es, clock, hb, r⟩ := ho
  exact ⟨es, clock, (h.block b (Array.getElem?_eq_some_iff.1 hb).1 hF).trans hb, r⟩
/-- Whoever owns a row owns it from any lower block on. -/
theorem owns_low {w : World} {base : Nat} {e : TypeId} {size : Nat} {v : Value} {n : Nat} {xs : List Value} (h : w.ownsRow base e size v n xs) {base' : Nat} (hb : base' ≤ base) : w.ownsRow base' e size v n xs := by
  refine ⟨h.1, ?_⟩
  rcases h.2 with h | ⟨g, cap, cur, e, hg, r⟩
  · exact .inl h
  · exact .inr ⟨g, cap, cur, e, by omega, r⟩

/-- A map has just so many entries as it is read with. -/
theorem owns_tight {w : World} {P : Program} {k : TypeId} {H : Type} {R : Value → Option (DataW H × List MemPlace)} {b n : Nat} {D : DataW H} (h : w.ownsMap P k R b n D) : w.ownsMap P k R b (Maps.size D) D := by
  obtain ⟨es, clock, hb, F, hs, rfl⟩ := h
  refine ⟨es, clock, hb, F, ?_, rfl⟩
  simp [Maps.size, length_sorted]

theorem not_run (x : Bool) (w : World) : (Op.unary .not (.bool x)).run Try.prog w = .ok (.bool (!x)) w := rfl
def upd {α : Type} (f : Nat → α) (p : Nat) (x : α) : Nat → α := fun q => if q = p then x else f q
theorem upd_same {α : Type} (f : Nat → α) (p : Nat) (x : α) : upd f p x p = x := by simp [upd]
theorem upd_other {α : Type} (f : Nat → α) {p q : Nat} (x : α) (h : q ≠ p) : upd f p x q = f q := by simp [upd, h]
theorem step_of {ops : Array Oper} {o : Oper} {a : Act} {w : World} {K : Act → World → Prop} {Q : Exit → Act → World → Prop} {E : Prop} (hg : o.guard = none) (h : o.wp Try.prog a w K Q) :
    if Region.wanted o (yielded ops a.tmps) = true then o.wp Try.prog a w K Q else E := by
  rw [if_pos (by simp [Region.wanted, hg])]
  exact h
/-- A region whose operations leave the world as it is. -/
theorem region_still {P : Program} {id : Nat} {Q : Exit → Act → World → Prop} {a : Act} {w : World} {l : List Oper} (hm : P.follows .mixedOrders = true) (hB : Region.lexB .any l.toArray = true)
    (h : wpStill P l.toArray w.drew (fun a' => Q .normal a' w.drew) l a) : (Code.region id l.toArray true).wp P Q a w := wp_region_still_lit hm hB h

theorem set_other {w : World} {a b : Addr} {v : Value} (h : a ≠ b) : (w.setCell a v).cell? b = w.cell? b := by apply World.cell?_setCell_other; exact h
theorem set_same {w : World} {a : Addr} {v u : Value} (h : w.cell? a = some u) : (w.setCell a v).cell? a = some v := by apply World.cell?_setCell_same; exact h
theorem kept_ne {w w' : World} {base : Nat} {e : TypeId} {size : Nat} {v : Value} {n : Nat} {xs : List Value} {row : Option Nat} (h : w.ownsRow base e size v n xs) (g : w.grownBy w' row) (hne : ∀ k, v.ownBlock = some k → row ≠ some k) : w'.ownsRow base e size v n xs := by
  refine World.ownsRow.kept h g ?_
  cases hv : v.ownBlock with
  | none => exact .inl rfl
  | some k => exact .inr fun e => hne k hv e.symm
/-- A region whose first n operations leave the world as it is and whose rest stands in one order. -/
theorem region_tail {P : Program} {id : Nat} {Q : Exit → Act → World → Prop} {a : Act} {w : World} {l : List Oper} (n : Nat) (hm : P.follows .mixedOrders = true) (hB : Region.lexTailB .any l.toArray n = true)
    (h : wpStill P l.toArray w.drew (fun a' => wpList P l.toArray Q (l.drop n) a' w.drew) (l.take n) a) : (Code.region id l.toArray true).wp P Q a w := wp_region_still_tail n hm hB h
theorem new_cell (w : World) {C : Array Value} {t : TypeId} {q i : Nat} {v : Value} (hq : q = w.heap.size) (h : C[i]? = some v) : ((w.alloc (.cells C t)).drew).cell? ⟨q, i, none⟩ = some v := by
  subst hq
  show (w.alloc (.cells C t)).cell? _ = _
  rw [World.cell?_alloc_new]
  exact h
theorem new_at (w : World) {C : Array Value} {t : TypeId} {q i : Nat} {v : Value} (hq : q = w.heap.size) (h : C[i]? = some v) : (w.alloc (.cells C t)).cell? ⟨q, i, none⟩ = some v := by
  subst hq
  rw [World.cell?_alloc_new]
  exact h
theorem Chg.low {S : Nat → Prop} {W w w' : World} (hb : Below W.heap.size W w) (h : Chg S w w') (hS : ∀ k, S k → W.heap.size ≤ k) : Below W.heap.size W w' := hb.trans (h.below hb.size hS)
theorem grown_low {W w w' : World} (hb : Below W.heap.size W w) (h : w.grownBy w' none) : Below W.heap.size W w' := hb.grown h hb.size (by simp)
theorem Chg.wide {F G : Nat → Prop} {w w' : World} (h : Chg F w w') (hG : ∀ k, F k → G k) : Chg G w w' := ⟨h.os, h.tape, h.output, h.size, fun k hk hn => h.block k hk fun c => hn (hG k c)⟩
theorem Chg.kept_ne {F : Nat → Prop} {w w' : World} {base : Nat} {e : TypeId} {size : Nat} {v : Value} {n : Nat} {xs : List Value} (h : Chg F w w') (ho : w.ownsRow base e size v n xs) (hF : ∀ k, v.ownBlock = some k → ¬ F k) : w'.ownsRow base e size v n xs := h.owns ho hF
/-- A world that has grown out of W. -/
structure Gr (W : World) where
  now : World
  grown : W.grownBy now none
theorem Gr.call {P : Program} {W : World} {x : Gr W} {f : FuncId} {args : Array Value} {v : Value}
    (k : Calls P f args x.now fun e w' => e = .returned v ∧ x.now.grownBy w' none) : Calls P f args x.now fun e w' => e = .returned v ∧ ∃ x' : Gr W, w' = x'.now :=
  k.mono fun _ w' ⟨he, hg⟩ => ⟨he, ⟨w', grown_more x.grown hg (by simp)⟩, rfl⟩
/-- A region that draws and whose calls make memory alone, walked once, in any class of worlds. -/
theorem wp_region_quiet_at {P : Program} {C : World → Prop} {id : Nat} {Q : Exit → Act → World → Prop} {a : Act} {w : World} {l : List Oper} (hm : P.follows .mixedOrders = true) (hB : Region.lexB .any l.toArray = true)
    (hC : C (w.drewN 1)) (h : wpQuiet P l.toArray C (fun a' => ∀ w', C w' → Q .normal a' w') l a) : (Code.region id l.toArray true).wp P Q a w :=
  wp_region_quiet (C := C) hm hB hC (by simpa using h)
end Go.Proofs.Ytdpcebaggldaiaa
namespace Go.Proofs.Ytdpcebaggldaiaa
open Go.RowKit
set_option linter.unusedVariables false

/-- How elements of a slice's type lie in memory. -/
structure Elm (α : Type) where
  el : TypeId
  sl : TypeId
  size : Nat
  bytes : Nat
  zero : Value
  enc : α → List Value
  hu : Try.prog.underlying sl = some (.slice el)
  hi : (Try.prog.info? el).map (fun i => (i.zero, i.size, i.bytes)) = some (some zero, size, bytes)
  hz : zero.cells.size = size
  hs : 0 < size
  len : ∀ x, (enc x).length = size
  one : ∀ x, ∀ v ∈ enc x, v.oneCell' = true
  he : Try.prog.elem sl = el
  so : ∀ W, (sizeOf el).run Try.prog W = .ok size W
namespace Elm
variable {α : Type} (E : Elm α)
def cells (l : List α) : List Value := l.flatMap E.enc
theorem cells_nil : E.cells [] = [] := rfl
theorem cells_cons (a : α) (l : List α) : E.cells (a :: l) = E.enc a ++ E.cells l := rfl
theorem cells_len : ∀ l : List α, (E.cells l).length = l.length * E.size
  | [] => by simp [cells]
  | a :: l => by rw [cells_cons, List.length_append, E.len, cells_len l, List.length_cons, Nat.succ_mul]; omega
theorem cells_append (l m : List α) : E.cells (l ++ m) = E.cells l ++ E.cells m := by simp [cells]
theorem cells_one (l : List α) : ∀ v ∈ E.cells l, v.oneCell' = true := by
  intro v hv
  obtain ⟨a, _, ha⟩ := List.mem_flatMap.1 hv
  exact E.one a v ha
theorem cells_take : ∀ (l : List α) (k : Nat), E.cells (l.take k) = (E.cells l).take (k * E.size)
  | [], k => by simp [cells]
  | a :: l, 0 => by simp [cells]
  | a :: l, k + 1 => by
    have h1 : (E.enc a).take (k * E.size + E.size) = E.enc a := List.take_of_length_le (by rw [E.len]; omega)
    rw [List.take_succ_cons, cells_cons, cells_cons, Nat.succ_mul, List.take_append, h1, E.len, cells_take l k, Nat.add_sub_cancel]
theorem cells_drop : ∀ (l : List α) (k : Nat), E.cells (l.drop k) = (E.cells l).drop (k * E.size)
  | [], k => by simp [cells]
  | a :: l, 0 => by simp
  | a :: l, k + 1 => by
    have h1 : (E.enc a).drop (k * E.size + E.size) = [] := List.drop_of_length_le (by rw [E.len]; omega)
    rw [List.drop_succ_cons, cells_cons, Nat.succ_mul, List.drop_append, h1, E.len, cells_drop l k, Nat.add_sub_cancel, List.nil_append]
theorem cells_at {l : List α} {i : Nat} {x : α} (h : l[i]? = some x) (j : Nat) (hj : j < E.size) : (E.cells l)[i * E.size + j]? = (E.enc x)[j]? := by
  have h1 : E.cells (l.drop i) = E.enc x ++ E.cells (l.drop (i + 1)) := by
    rw [← cells_cons, List.drop_eq_getElem_cons (List.getElem?_eq_some_iff.1 h).1, (List.getElem?_eq_some_iff.1 h).2]
  rw [cells_drop] at h1
  have h2 := congrArg (fun m : List Value => m[j]?) h1
  simp only [List.getElem?_drop] at h2
  rw [h2, List.getElem?_append_left (by rw [E.len]; exact hj)]
/-- The slice v is a row of its own, from block 'base' on. -/
def Own (w : World) (base : Nat) (v : Value) (l : List α) : Prop := w.ownsRow base E.el E.size v l.length (E.cells l)
/-- The slice v reads as l. -/
def Rx (w : World) (v : Value) (l : List α) : Prop := (v = .slice none 0 0 ∧ l = []) ∨ ∃ a c, v = .slice (some a) l.length c ∧ (l = [] ∨ a.spot = none) ∧ ∀ t x, (E.cells l)[t]? = some x → w.cell? (a.add t) = some x
variable {E}
theorem form {w : World} {base : Nat} {v : Value} {l : List α} (h : E.Own w base v l) : ∃ ad c, v = .slice ad l.length c := by
  rcases h.2 with ⟨e, h0⟩ | ⟨g, cap, cur, e, _⟩
  · exact ⟨_, _, by rw [h0]; exact e⟩
  · exact ⟨_, _, e⟩
theorem Own.len {w : World} {base : Nat} {ad : Option Addr} {n c : Nat} {l : List α} (h : E.Own w base (.slice ad n c) l) : n = l.length := by
  rcases h.2 with ⟨e, h0⟩ | ⟨g, cap, cur, e, _⟩
  · injection e with _ e _; omega
  · injection e
theorem nil (w : World) (base : Nat) : E.Own w base (.slice none 0 0) [] := World.ownsRow_nil _ _ _ _
theorem Own.low {w : World} {base base' : Nat} {v : Value} {l : List α} (h : E.Own w base v l) (hb : base' ≤ base) : E.Own w base' v l := owns_low h hb
theorem Own.kept {F : Nat → Prop} {w w' : World} {base : Nat} {v : Value} {l : List α} (h : E.Own w base v l) (g : Chg F w w') (hF : ∀ k, v.ownBlock = some k → ¬ F k) : E.Own w' base v l := g.owns h hF
theorem Own.grown {w w' : World} {base : Nat} {v : Value} {l : List α} (h : E.Own w base v l) (g : w.grownBy w' none) : E.Own w' base v l := h.kept (F := fun _ => False) (Chg.of g (by simp)) (fun _ _ => id)
theorem Own.but {w w' : World} {base : Nat} {v : Value} {l : List α} {row : Option Nat} (h : E.Own w base v l) (g : w.grownBy w' row) (hne : ∀ k, v.ownBlock = some k → row ≠ some k) : E.Own w' base v l := kept_ne h g hne
theorem Own.lt {w : World} {base : Nat} {v : Value} {l : List α} (h : E.Own w base v l) : ∀ k, v.ownBlock = some k → base ≤ k ∧ k < w.heap.size := World.ownsRow.lt h
theorem Own.rx {w : World} {base : Nat} {v : Value} {l : List α} (h : E.Own w base v l) : E.Rx w v l := by
  rcases h.2 with ⟨e, h0⟩ | ⟨g, cap, cur, e, hg, hh, h1, h2, h3, h4⟩
  · exact .inl ⟨e, List.eq_nil_of_length_eq_zero h0⟩
  · exact .inr ⟨⟨g, 0, none⟩, cap, e, .inr rfl, fun t x hx => World.ownsRow.cells h (g := g) (by rw [e]; rfl) t x hx⟩
theorem Rx.form {w : World} {v : Value} {l : List α} (h : E.Rx w v l) : ∃ ad c, v = .slice ad l.length c := by
  rcases h with ⟨e, rfl⟩ | ⟨a, c, e, _⟩
  · exact ⟨_, _, e⟩
  · exact ⟨_, _, e⟩
theorem Rx.kept {F : Nat → Prop} {w w' : World} {v : Value} {l : List α} (h : E.Rx w v l) (g : Chg F w w') (hF : ∀ k, v.ownBlock = some k → ¬ F k) : E.Rx w' v l := by
  rcases h with h | ⟨a, c, rfl, hs, h1⟩
  · exact .inl h
  · refine .inr ⟨a, c, rfl, hs, fun t x hx => g.cell (h1 t x hx) ?_⟩
    have : (a.add t).block = a.block := by unfold Addr.add; split <;> rfl
    rw [this]
    exact hF _ rfl
theorem Rx.kept' {F : Nat → Prop} {w w' : World} {v : Value} {l : List α} (h : E.Rx w v l) (g : Chg F w w') (hF : l ≠ [] → ∀ k, v.ownBlock = some k → ¬ F k) : E.Rx w' v l := by
  by_cases hl : l = []
  · subst hl
    rcases h with h | ⟨a, c, e, _, _⟩
    · exact .inl h
    · exact .inr ⟨a, c, e, .inl rfl, fun t x hx => by simp [cells] at hx⟩
  · exact h.kept g (hF hl)
/-- Where the cells lie that are read. -/
theorem Rx.lt {w : World} {v : Value} {l : List α} (h : E.Rx w v l) (hl : l ≠ []) : ∀ k, v.ownBlock = some k → k < w.heap.size := by
  intro k hk
  rcases h with ⟨_, e⟩ | ⟨a, c, rfl, _, h1⟩
  · exact absurd e hl
  · obtain ⟨x, m, rfl⟩ := List.exists_cons_of_ne_nil hl
    have hs := E.hs
    have hlen := E.len x
    obtain ⟨u, hu⟩ : ∃ u, (E.cells (x :: m))[0]? = some u := ⟨_, List.getElem?_eq_getElem (by rw [cells_cons, List.length_append]; omega)⟩
    have h2 := World.block_lt_of_cell? w _ (h1 0 u hu)
    have : (a.add 0).block = a.block := by unfold Addr.add; split <;> rfl
    rw [this] at h2
    injection hk with hk
    omega
theorem Rx.below {w w' : World} {v : Value} {l : List α} (h : E.Rx w v l) (g : Below w.heap.size w w') : E.Rx w' v l := by
  rcases h with h | ⟨a, c, rfl, hs, h1⟩
  · exact .inl h
  · exact .inr ⟨a, c, rfl, hs, fun t x hx => (g.cell (World.block_lt_of_cell? w _ (h1 t x hx))).trans (h1 t x hx)⟩
theorem Rx.grown {w w' : World} {v : Value} {l : List α} (h : E.Rx w v l) (g : w.grownBy w' none) : E.Rx w' v l := h.kept (F := fun _ => False) (Chg.of g (by simp)) (fun _ _ => id)
/-- A new row. -/
theorem made (w : World) (cur : Array Value) (cap : Nat) (n : Nat) (hn : n = w.heap.size) (hm : cap ≤ maxLen) (hc : cur.size = cap * E.size) : E.Own (w.alloc (.cells cur E.el)) n (.slice (some ⟨n, 0, none⟩) 0 cap) [] := by
  subst hn
  exact World.ownsRow_made w cur cap (Nat.le_refl _) hm hc
/-- 'append(v, x...)'. -/
theorem run_append {w : World} {base : Nat} {V X : Value} {l0 l : List α} (hown : E.Own w base V l0) (hX : E.Rx w X l) (hb : l0.length + l.length ≤ 4611686018427387904) (hby : (l0.length + l.length) * E.bytes ≤ 140737488355328) (hbase : base ≤ w.heap.size) (ty : TypeId) :
    ∃ v' w', (Builtin.append_ #[E.sl, E.sl] ty #[V, X]).run Try.prog w = .ok v' w' ∧ E.Own w' base v' (l0 ++ l) ∧ w.grownBy w' V.ownBlock ∧ (v'.ownBlock = V.ownBlock ∨ v'.ownBlock = some w.heap.size) := by
  obtain ⟨ii, hi, hz0, hz1, hz2⟩ := info_parts E.hi
  rcases hX with ⟨rfl, rfl⟩ | ⟨a, c, rfl, hs, hc⟩
  · refine ⟨V, w, run_append_owned_none (P := Try.prog) (w := w) base E.sl ty E.el ii E.size E.hu hi V l0.length (E.cells l0) hown, by rw [List.append_nil]; exact hown, grown_refl _ _, .inl rfl⟩
  · obtain ⟨v', w', hr, h2, h3, h4, h5⟩ := run_append_own_at (P := Try.prog) w base E.sl ty E.el ii E.zero E.size E.bytes E.hu hi hz0 hz1 hz2 E.hz E.hs V l0.length (E.cells l0) hown a l.length c (E.cells l) (E.cells_len l) hc (E.cells_one l) (by unfold maxLen; omega) hby hbase
    exact ⟨v', w', hr, by unfold Own; rw [cells_append, List.length_append]; exact h2, h3, h5⟩
theorem wp_append {w : World} {o : Oper} {a : Act} {K : Act → World → Prop} {Q : Exit → Act → World → Prop} (s x : Operand)
    (ho : o.op = .call { callee := .builtin .append, args := #[s, x], argTypes := #[E.sl, E.sl] }) (base : Nat) (V : Value) (l0 : List α) (hs : a.eval s = V) (hown : E.Own w base V l0) (X : Value) (l : List α) (hx : a.eval x = X) (hX : E.Rx w X l)
    (hb : l0.length + l.length ≤ 4611686018427387904) (hby : (l0.length + l.length) * E.bytes ≤ 140737488355328) (hbase : base ≤ w.heap.size)
    (h : ∀ ad n c w', E.Own w' base (.slice ad n c) (l0 ++ l) → w.grownBy w' V.ownBlock → ((Value.slice ad n c).ownBlock = V.ownBlock ∨ (Value.slice ad n c).ownBlock = some w.heap.size) → K (a.put o.dst (.slice ad n c)) w') : o.wp Try.prog a w K Q := by
  obtain ⟨v', w', hr, h2, h3, h5⟩ := run_append hown hX hb hby hbase o.type
  unfold Oper.wp execOp
  simp only [ho, resolve, invoke, builtin, Sem.run_bind, Sem.run_pure, Result.andThen_ok, List.map_toArray, List.map_cons, List.map_nil, hs, hx, hr]
  obtain ⟨ad, c, rfl⟩ := form h2
  exact h ad _ c w' h2 h3 h5
theorem wpList_append {w : World} {ops : Array Oper} {rest : List Oper} {o : Oper} {a : Act} {Q : Exit → Act → World → Prop} (hgd : o.guard = none) (s x : Operand)
    (ho : o.op = .call { callee := .builtin .append, args := #[s, x], argTypes := #[E.sl, E.sl] }) (base : Nat) (V : Value) (l0 : List α) (hs : a.eval s = V) (hown : E.Own w base V l0) (X : Value) (l : List α) (hx : a.eval x = X) (hX : E.Rx w X l)
    (hb : l0.length + l.length ≤ 4611686018427387904) (hby : (l0.length + l.length) * E.bytes ≤ 140737488355328) (hbase : base ≤ w.heap.size)
    (h : ∀ ad n c w', E.Own w' base (.slice ad n c) (l0 ++ l) → w.grownBy w' V.ownBlock → ((Value.slice ad n c).ownBlock = V.ownBlock ∨ (Value.slice ad n c).ownBlock = some w.heap.size) → wpList Try.prog ops Q rest (a.put o.dst (.slice ad n c)) w') : wpList Try.prog ops Q (o :: rest) a w :=
  wpList_plain hgd fun K hK => wp_append s x ho base V l0 hs hown X l hx hX hb hby hbase fun ad n c w' h1 h2 h3 => hK _ _ (h ad n c w' h1 h2 h3)
/-- One new element, in a row of its own: it reads as that. -/
theorem rx_one {w : World} {q : Nat} {x : α} (h : ∀ j u, (E.enc x)[j]? = some u → w.cell? ⟨q, j, none⟩ = some u) : E.Rx w (.slice (some ⟨q, 0, none⟩) 1 1) [x] := by
  refine .inr ⟨⟨q, 0, none⟩, 1, rfl, .inr rfl, fun t u hu => ?_⟩
  rw [Addr.add_lit, Nat.zero_add]
  rw [cells_cons, cells_nil, List.append_nil] at hu
  exact h t u hu
/-- 'v[:k]'. -/
theorem upto {w : World} {base : Nat} {v : Value} {L : List α} (h : E.Own w base v L) {k : Nat} (hk : k ≤ L.length) :
    ∃ ad c, (∀ W, (Instr.sliceAt E.sl v none (some (.int .i64 (k : Int))) none).run Try.prog W = .ok (.slice ad k c) W) ∧ E.Own w base (.slice ad k c) (L.take k) ∧ (Value.slice ad k c).ownBlock = v.ownBlock := by
  have ht : Try.prog.underlying E.sl = some (.slice (Try.prog.elem E.sl)) := by rw [E.he]; exact E.hu
  have run : ∀ a n c W, k ≤ c → (Instr.sliceAt E.sl (.slice a n c) none (some (.int .i64 (k : Int))) none).run Try.prog W = .ok (sliced a 0 k c E.size) W := fun a n c W hn => by
    rw [run_sliceAt_slice W E.sl _ _ _ _ ht, run_slice_h W E.sl a n c ht .i64 (k : Int) (by omega) (by omega), E.he, E.so W]
    show Result.ok (sliced a 0 (k : Int).toNat c E.size) W = _
    rw [Int.toNat_natCast]
  have hlen : (L.take k).length = k := by rw [List.length_take]; omega
  rcases h.2 with ⟨e, h0⟩ | ⟨g, cap, cur, e, hg, hh, h1, h2, h3, h4⟩
  · have hL : L = [] := List.eq_nil_of_length_eq_zero h0
    subst hL
    have hk0 : k = 0 := by simpa using hk
    subst hk0
    refine ⟨none, 0, fun W => ?_, nil _ _, by rw [e]⟩
    rw [e, run none 0 0 W (by omega)]
    rfl
  · refine ⟨some ⟨g, 0, none⟩, cap, fun W => ?_, ⟨by rw [cells_len], .inr ⟨g, cap, cur, by rw [hlen], hg, hh, by rw [hlen]; omega, h2, h3, ?_⟩⟩, by rw [e]; rfl⟩
    · rw [e, run _ _ _ W (by omega)]
      unfold sliced
      by_cases hc : cap = 0
      · rw [if_pos hc]; rfl
      · rw [if_neg hc]
        show Result.ok (Value.slice (some ((⟨g, 0, none⟩ : Addr).add (0 * E.size))) _ _) W = _
        rw [Addr.add_lit, Nat.zero_mul]
        rfl
    · rw [hlen, cells_take, ← h4, List.take_take, Nat.min_eq_left (Nat.mul_le_mul_right _ hk)]
/-- Where the i-th element lies. -/
theorem Own.at_ {w : World} {base : Nat} {v : Value} {l : List α} (h : E.Own w base v l) {i : Nat} {x : α} (hi : l[i]? = some x) :
    ∃ g c, v = .slice (some ⟨g, 0, none⟩) l.length c ∧ (∀ j u, (E.enc x)[j]? = some u → w.cell? ⟨g, i * E.size + j, none⟩ = some u) ∧ ∀ j, w.frozen? ⟨g, j, none⟩ = false := by
  have hlt := (List.getElem?_eq_some_iff.1 hi).1
  rcases h.2 with ⟨e, h0⟩ | ⟨g, cap, cur, e, hg, hh, h1, h2, h3, h4⟩
  · omega
  · refine ⟨g, cap, e, fun j u hu => ?_, fun j => by simp [World.frozen?, hh]⟩
    have hj : j < E.size := by have := (List.getElem?_eq_some_iff.1 hu).1; rw [E.len] at this; exact this
    have := World.ownsRow.cells h (g := g) (by rw [e]; rfl) (i * E.size + j) u (by rw [cells_at E hi j hj]; exact hu)
    rwa [Addr.add_lit, Nat.zero_add] at this
theorem Rx.at_ {w : World} {v : Value} {l : List α} (h : E.Rx w v l) {i : Nat} {x : α} (hi : l[i]? = some x) :
    ∃ g o c, v = .slice (some ⟨g, o, none⟩) l.length c ∧ (∀ j u, (E.enc x)[j]? = some u → w.cell? ⟨g, o + i * E.size + j, none⟩ = some u) := by
  have hlt := (List.getElem?_eq_some_iff.1 hi).1
  rcases h with ⟨_, rfl⟩ | ⟨⟨g, o, sp⟩, c, e, hs, hc⟩
  · simp at hlt
  · rcases hs with rfl | hs
    · simp at hlt
    · simp at hs
      subst hs
      refine ⟨g, o, c, e, fun j u hu => ?_⟩
      have hj : j < E.size := by have := (List.getElem?_eq_some_iff.1 hu).1; rw [E.len] at this; exact this
      have := hc (i * E.size + j) u (by rw [cells_at E hi j hj]; exact hu)
      rwa [Addr.add_lit, ← Nat.add_assoc] at this
/-- 'v[i]'s place. -/
theorem run_at {W : World} {g o n c i : Nat} (hi : i < n) (hn : n ≤ 9223372036854775807) : (Instr.indexAt E.sl (.slice (some ⟨g, o, none⟩) n c) (.int .i64 (i : Int))).run Try.prog W = .ok (.pointer (some ⟨g, o + i * E.size, none⟩)) W := by
  have ht : Try.prog.underlying E.sl = some (.slice (Try.prog.elem E.sl)) := by rw [E.he]; exact E.hu
  rw [run_indexAt_slice (P := Try.prog) W E.sl ⟨g, o, none⟩ n c .i64 (i : Int) ht, if_pos ⟨by omega, by omega⟩, E.he, E.so W]
  show Result.ok (Value.pointer (some ((⟨g, o, none⟩ : Addr).add ((i : Int).toNat * E.size)))) W = _
  rw [Addr.add_lit, Int.toNat_natCast]
end Elm
end Go.Proofs.Ytdpcebaggldaiaa
