/- What calls leave of the world; a wheel in memory. -/
import Derived.Test.YtijgekdhjfbgkaaProg
import Derived.Test.YtijgekdhjfbgkaaWMath
import Derived.WalkKit
import Derived.WalkSpells
import Derived.WalkLawsBesides
import Derived.Laws.AppendOwn
import Derived.Maps.RangeWalk
import Derived.Below
import Derived.Deep.Light
namespace Go.Proofs.Ytijgekdhjfbgkaa
open Go.RowKit
set_option linter.unusedVariables false

theorem ret_int {k : IntKind} {a b : Int} (h : a = b) : Ending.returned (.int k a) = .returned (.int k b) := by rw [h]
theorem ret_bool {a b : Bool} (h : a = b) : Ending.returned (.bool a) = .returned (.bool b) := by rw [h]
theorem val_int {k : IntKind} {a b : Int} (h : a = b) : Value.int k a = .int k b := by rw [h]
theorem grown_refl (w : World) (row : Option Nat) : w.grownBy w row := ⟨rfl, rfl, rfl, Nat.le_refl _, fun _ _ _ => rfl⟩
theorem grown_more {w w1 w2 : World} {r r1 : Option Nat} (h : w.grownBy w1 r) (k : w1.grownBy w2 r1) (hr : ∀ b, r1 = some b → r = some b ∨ w.heap.size ≤ b) : w.grownBy w2 r :=
  ⟨k.os.trans h.os, k.tape.trans h.tape, k.output.trans h.output, Nat.le_trans h.size k.size, fun j hj hn => by
    have h1 := h.size
    rw [k.block j (by omega) (fun e => by rcases hr j e.symm with h' | h'; exact hn h'.symm; omega)]
    exact h.block j hj hn⟩
theorem grown_alloc {w w1 : World} {r : Option Nat} (h : w.grownBy w1 r) (o : Obj) : w.grownBy (w1.alloc o) r :=
  grown_more h (World.grownBy_alloc w1 o none) (by simp)
theorem grown_below {w w1 : World} (h : w.grownBy w1 none) : Below w.heap.size w w1 :=
  ⟨h.os, h.tape, h.output, h.size, fun k hk => h.block k hk (by simp)⟩
theorem grown_drewN {w w' : World} {r : Option Nat} (h : w.grownBy w' r) (n : Nat) : w.grownBy (w'.drewN n) r := ⟨h.os, h.tape, h.output, h.size, h.block⟩
theorem grown_drew {w w' : World} {r : Option Nat} (h : w.grownBy w' r) : w.grownBy w'.drew r := ⟨h.os, h.tape, h.output, h.size, h.block⟩
theorem cell_kept {w w1 : World} {C : Array Value} {t : TypeId} (hg : (w.alloc (.cells C t)).grownBy w1 none) (i : Nat) (v : Value) (h : C[i]? = some v) : w1.cell? ⟨w.heap.size, i, none⟩ = some v :=
  hg.cell (by rw [World.cell?_alloc_new]; exact h) (by simp)
theorem frozen_kept {w w1 : World} {C : Array Value} {t : TypeId} (hg : (w.alloc (.cells C t)).grownBy w1 none) (i : Nat) : w1.frozen? ⟨w.heap.size, i, none⟩ = false := by
  rw [World.frozen?_of_block (w := w.alloc (.cells C t)) (hg.block w.heap.size (by simp) (by simp))]
  simp
theorem grown_set (w : World) (p : Addr) (u : Value) : w.grownBy (w.setCell p u) (some p.block) :=
  ⟨rfl, rfl, rfl, by simp [World.setCell], fun k _ hr => Below.heap_setCell _ _ _ _ (fun e => hr (by rw [e]))⟩
theorem size_set (w : World) (p : Addr) (u : Value) : (w.setCell p u).heap.size = w.heap.size := by simp [World.setCell]

/-- Of what lay in w nothing has turned but what F says. -/
structure Chg (F : Nat → Prop) (w w' : World) : Prop where
  os : w'.os = w.os
  tape : w'.tape = w.tape
  output : w'.output = w.output
  size : w.heap.size ≤ w'.heap.size
  block : ∀ k, k < w.heap.size → ¬ F k → w'.heap[k]? = w.heap[k]?
theorem Chg.refl (F : Nat → Prop) (w : World) : Chg F w w := ⟨rfl, rfl, rfl, Nat.le_refl _, fun _ _ _ => rfl⟩
theorem Chg.trans {F G : Nat → Prop} {w w1 w2 : World} (h : Chg F w w1) (k : Chg G w1 w2) (hG : ∀ b, G b → F b ∨ w.heap.size ≤ b) : Chg F w w2 :=
  ⟨k.os.trans h.os, k.tape.trans h.tape, k.output.trans h.output, Nat.le_trans h.size k.size, fun j hj hn => by
    have h1 := h.size
    rw [k.block j (by omega) (fun e => by rcases hG j e with h' | h'; exact hn h'; omega)]
    exact h.block j hj hn⟩
theorem Chg.of {F : Nat → Prop} {w w' : World} {row : Option Nat} (h : w.grownBy w' row) (hF : ∀ k, row = some k → F k) : Chg F w w' :=
  ⟨h.os, h.tape, h.output, h.size, fun k hk hn => h.block k hk (fun e => hn (hF k e.symm))⟩
theorem Chg.grown {F : Nat → Prop} {w w1 w2 : World} {row : Option Nat} (h : Chg F w w1) (k : w1.grownBy w2 row) (hr : ∀ b, row = some b → F b ∨ w.heap.size ≤ b) : Chg F w w2 :=
  h.trans (Chg.of (F := fun b => row = some b) k (fun _ e => e)) hr
theorem Chg.none {w w' : World} (h : Chg (fun _ => False) w w') : w.grownBy w' none := ⟨h.os, h.tape, h.output, h.size, fun k hk _ => h.block k hk id⟩
theorem Chg.below {F : Nat → Prop} {B : Nat} {w w' : World} (h : Chg F w w') (hB : B ≤ w.heap.size) (hF : ∀ k, F k → B ≤ k) : Below B w w' :=
  ⟨h.os, h.tape, h.output, h.size, fun k hk => h.block k (by omega) (fun e => by have := hF k e; omega)⟩
theorem Chg.cell {F : Nat → Prop} {w w' : World} (h : Chg F w w') {a : Addr} {v : Value} (hc : w.cell? a = some v) (hF : ¬ F a.block) : w'.cell? a = some v :=
  (World.cell?_of_block (h.block a.block (World.block_lt_of_cell? w a hc) hF)).trans hc
theorem Chg.frozen {F : Nat → Prop} {w w' : World} (h : Chg F w w') {a : Addr} (ha : a.block < w.heap.size) (hF : ¬ F a.block) : w'.frozen? a = w.frozen? a :=
  World.frozen?_of_block (h.block a.block ha hF)
theorem Chg.owns {F : Nat → Prop} {w w' : World} {base : Nat} {e : TypeId} {size : Nat} {v : Value} {n : Nat} {xs : List Value} (h : Chg F w w') (ho : w.ownsRow base e size v n xs) (hF : ∀ k, v.ownBlock = some k → ¬ F k) : w'.ownsRow base e size v n xs := by
  refine ⟨ho.1, ?_⟩
  rcases ho.2 with k | ⟨g, cap, cur, rfl, hg, hh, r⟩
  · exact .inl k
  · exact .inr ⟨g, cap, cur, rfl, hg, (h.block g (Array.getElem?_eq_some_iff.1 hh).1 (hF g rfl)).trans hh, r⟩
theorem Chg.maps {F : Nat → Prop} {w w' : World} {P : Program} {k : TypeId} {H : Type} {R : Value → Option (DataW H × List MemPlace)} {b n : Nat} {D : DataW H} (h : Chg F w w') (ho : w.ownsMap P k R b n D) (hF : ¬ F b) : w'.ownsMap P k R b n D := by
  obtain ⟨es, clock, hb, r⟩ := ho
  exact ⟨es, clock, (h.block b (Array.getElem?_eq_some_iff.1 hb).1 hF).trans hb, r⟩
/-- Whoever owns a row owns it from any lower block on. -/
theorem owns_low {w : World} {base : Nat} {e : TypeId} {size : Nat} {v : Value} {n : Nat} {xs : List Value} (h : w.ownsRow base e size v n xs) {base' : Nat} (hb : base' ≤ base) : w.ownsRow base' e size v n xs := by
  refine ⟨h.1, ?_⟩
  rcases h.2 with h | ⟨g, cap, cur, e, hg, r⟩
  · exact .inl h
  · exact .inr ⟨g, cap, cur, e, by omega, r⟩

/-- A map has just so many entries as it is read with. -/
theorem owns_tight {w : World} {P : Program} {k : TypeId} {H : Type} {R : Value → Option (DataW H × List MemPlace)} {b n : Nat} {D : DataW H} (h : w.ownsMap P k R b n D) : w.ownsMap P k R b (Maps.size D) D := by
  obtain ⟨es, clock, hb, F, hs, rfl⟩ := h
  refine ⟨es, clock, hb, F, ?_, rfl⟩
  simp [Maps.size, length_sorted]

open Whl
/-- A wheel in memory: its block b, now, its map (block bm, read as D), its places' slices v and what they hold. -/
structure WhD (w : World) (b : Nat) (now : Int) (bm : Nat) (D : DataW Unit) (v : Nat → Value) (ls : Nat → List Int) : Prop where
  c0 : w.cell? ⟨b, 0, none⟩ = some (.int .i64 now)
  c1 : w.cell? ⟨b, 1, none⟩ = some (.map (some bm))
  cp : ∀ p, p < 193 → w.cell? ⟨b, 2 + p, none⟩ = some (v p)
  fr : ∀ i, w.frozen? ⟨b, i, none⟩ = false
  map : w.ownsMap Try.prog 3 (plainElem Try.prog 2) bm (Maps.size D) D
  row : ∀ p, p < 193 → w.ownsRow 0 3 1 (v p) (ls p).length ((ls p).map (Value.int .i64))
  apart : ∀ p q, p < 193 → q < 193 → p ≠ q → ∀ k, (v p).ownBlock = some k → (v q).ownBlock ≠ some k
  nb : ∀ p, p < 193 → (v p).ownBlock ≠ some b
  nm : ∀ p, p < 193 → (v p).ownBlock ≠ some bm
  bb : b ≠ bm
/-- Whose blocks they are. -/
structure Foot (w : World) (b bm : Nat) (v : Nat → Value) (F : Nat → Prop) : Prop where
  fb : F b
  fm : F bm
  fv : ∀ p, p < 193 → ∀ k, (v p).ownBlock = some k → F k
  lt : ∀ k, F k → k < w.heap.size
theorem WhD.kept {F : Nat → Prop} {w w' : World} {b : Nat} {now : Int} {bm : Nat} {D : DataW Unit} {v : Nat → Value} {ls : Nat → List Int} (h : WhD w b now bm D v ls) (g : Chg F w w') (hb : ¬ F b) (hm : ¬ F bm) (hv : ∀ p, p < 193 → ∀ k, (v p).ownBlock = some k → ¬ F k) : WhD w' b now bm D v ls :=
  ⟨g.cell h.c0 hb, g.cell h.c1 hb, fun p hp => g.cell (h.cp p hp) hb, fun i => (g.frozen (a := ⟨b, i, none⟩) (show b < w.heap.size from World.block_lt_of_cell? w ⟨b, 0, none⟩ h.c0) hb).trans (h.fr i), g.maps h.map hm, fun p hp => g.owns (h.row p hp) (hv p hp), h.apart, h.nb, h.nm, h.bb⟩
/-- The map tells the items' instants. -/
structure Tells (D : DataW Unit) (L : List It) : Prop where
  has : ∀ id, Maps.has D (.int .i64 id) = L.any fun a => a.1 == id
  at_ : ∀ a ∈ L, ∀ z, D.atKey (.int .i64 a.1) z = .lit (.int .i64 a.2)
  size : Maps.size D = L.length
/-- The places hold the items' Ids. -/
def Held (now : Int) (L : List It) (ls : Nat → List Int) : Prop := ∀ p, p < 193 → (ls p).Nodup ∧ ∀ id, id ∈ ls p ↔ ∃ a ∈ L, a.1 = id ∧ plc now.toNat a.2.toNat = p
/-- A wheel at b, whose blocks are F's. -/
def Wh (w : World) (b : Nat) (now : Int) (L : List It) (F : Nat → Prop) : Prop :=
  ∃ bm D v ls, WhD w b now bm D v ls ∧ Foot w b bm v F ∧ Tells D L ∧ Held now L ls ∧ Ok now L
theorem Wh.kept {F G : Nat → Prop} {w w' : World} {b : Nat} {now : Int} {L : List It} (h : Wh w b now L F) (g : Chg G w w') (hd : ∀ k, F k → ¬ G k) : Wh w' b now L F := by
  obtain ⟨bm, D, v, ls, h1, h2, h3, h4, h5⟩ := h
  exact ⟨bm, D, v, ls, h1.kept g (hd _ h2.fb) (hd _ h2.fm) (fun p hp k hk => hd _ (h2.fv p hp k hk)), ⟨h2.fb, h2.fm, h2.fv, fun k hk => Nat.lt_of_lt_of_le (h2.lt k hk) g.size⟩, h3, h4, h5⟩
end Go.Proofs.Ytijgekdhjfbgkaa
