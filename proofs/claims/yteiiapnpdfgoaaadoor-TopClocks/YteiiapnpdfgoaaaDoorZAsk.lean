/- What asking a zone for its turns does: the first time they are reckoned, later nothing is done. -/
import Derived.Test.YteiiapnpdfgoaaaDoorZOnce
namespace Go.Proofs.YteiiapnpdfgoaaaDoor
open Go.RowKit
set_option linter.unusedVariables false

theorem Turns.kept {w w' : World} {s : Value} {z : Zon.Z} {b : Nat} {row : Option Nat} (h : Turns w s z b) (g : w.grownBy w' row) (hr : row = none ∨ row = some b) : Turns w' s z b := by
  rcases h with h | ⟨hs, q, hq, he, hc⟩
  · exact .inl h
  · refine .inr ⟨hs, q, hq, he, fun i hi => g.cell (hc i hi) ?_⟩
    rcases hr with rfl | rfl
    · simp
    · simp; exact hq
/-- A zone lies there still, where nothing old has turned. -/
theorem Zn.kept {w w' : World} {b : Nat} {z : Zon.Z} (h : Zn w b z) (g : w.grownBy w' none) : Zn w' b z := by
  have hb := World.block_lt_of_cell? w _ h.c1
  refine ⟨⟨g.cell h.c0 (by simp), g.cell h.c1 (by simp), g.cell h.c2 (by simp), g.cell h.c3 (by simp), g.cell h.c4 (by simp), g.cell h.c5 (by simp), g.cell h.c6 (by simp), g.cell h.c7 (by simp), g.cell h.c8 (by simp), g.cell h.c9 (by simp), fun i => ?_⟩, ?_⟩
  · exact (frozen_grown g (a := ⟨b, i, none⟩) hb (by simp)).trans (h.free i)
  · rcases h.state with ⟨a, c, d⟩ | ⟨a, s, c, d⟩
    · exact .inl ⟨g.cell a (by simp), g.cell c (by simp), g.cell d (by simp)⟩
    · exact .inr ⟨g.cell a (by simp), s, g.cell c (by simp), d.kept g (.inl rfl)⟩

/-- What the first asking leaves. -/
structure Asked (w w' : World) (b : Nat) (z : Zon.Z) : Prop where
  grown : w.grownBy w' (some b)
  zone : Zn w' b z
  done : w'.cell? ⟨b, 10, none⟩ = some (.int .u32 1)

/-- reckon, either way. -/
theorem reckon_any (b : Nat) (z : Zon.Z) (hz : z.ok) (w : World) (h : Zr w b z) (ht : w.cell? ⟨b, 13, none⟩ = some (.slice none 0 0)) :
    Calls Tryd.prog 59 #[.pointer (some ⟨b, 0, none⟩)] w fun e w' => e = .returned (.tuple #[]) ∧
      w.grownBy w' (some b) ∧ (∀ i, i < 13 → w'.cell? ⟨b, i, none⟩ = w.cell? ⟨b, i, none⟩) ∧ (∀ i, w'.frozen? ⟨b, i, none⟩ = false) ∧ ∃ s, w'.cell? ⟨b, 13, none⟩ = some s ∧ Turns w' s z b := by
  by_cases hs : z.s = 0
  · refine (reckon_zero b z hs w h).mono fun e w' ⟨he, hw⟩ => ?_
    subst hw
    exact ⟨he, grown_refl _ _, fun _ _ => rfl, h.free, _, ht, .inl ⟨hs, rfl⟩⟩
  · have h2 : z.two := by
      rcases hz.2.2.2.2 with k | k
      · exact absurd k.1 hs
      · exact k
    refine (reckon_two b z hs h2 w h ht).mono fun e w' ⟨he, B1, B2, q, R⟩ => ⟨he, R.grown, R.head, R.free, _, R.turns, .inr ⟨hs, q, ?_, rfl, fun i hi => ?_⟩⟩
    · have hb := World.block_lt_of_cell? w _ h.c1
      have := (R.own.lt q rfl).1
      simp only at hb
      omega
    · rw [R.own.cellAt i (by omega)]
      simp [tl, hi]

/-- What is stored at the once leaves the zone. -/
theorem Zn.locked {w : World} {b : Nat} {z : Zon.Z} (h : Zn w b z) (h0 : w.cell? ⟨b, 10, none⟩ = some (.int .u32 0)) (ht : w.cell? ⟨b, 13, none⟩ = some (.slice none 0 0)) (h1 : w.cell? ⟨b, 11, none⟩ = some (.int .i32 0)) :
    (w.setCell ⟨b, 11, none⟩ (.int .i32 1)).cell? ⟨b, 13, none⟩ = some (.slice none 0 0) ∧ ∀ i, i ≠ 11 → (w.setCell ⟨b, 11, none⟩ (.int .i32 1)).cell? ⟨b, i, none⟩ = w.cell? ⟨b, i, none⟩ :=
  ⟨other_cell (other_off (by omega)) ht, fun i hi => other_cell (other_off hi) rfl⟩

/-- The turns, asked for the first time, under the lock. -/
theorem asked_of {w w2 : World} {b : Nat} {z : Zon.Z} (h : Zn w b z) (h1 : w.cell? ⟨b, 11, none⟩ = some (.int .i32 0)) (h0 : w.cell? ⟨b, 10, none⟩ = some (.int .u32 0))
    (g : (w.setCell ⟨b, 11, none⟩ (.int .i32 1)).grownBy w2 (some b)) (hh : ∀ i, i < 13 → w2.cell? ⟨b, i, none⟩ = (w.setCell ⟨b, 11, none⟩ (.int .i32 1)).cell? ⟨b, i, none⟩) (hf : ∀ i, w2.frozen? ⟨b, i, none⟩ = false)
    {s : Value} (hs : w2.cell? ⟨b, 13, none⟩ = some s) (hT : Turns w2 s z b) :
    Asked w ((w2.setCell ⟨b, 10, none⟩ (.int .u32 1)).drew.setCell ⟨b, 11, none⟩ (.int .i32 0)) b z := by
  have k : ∀ i, i < 13 → i ≠ 11 → i ≠ 10 → ∀ v, w.cell? ⟨b, i, none⟩ = some v → ((w2.setCell ⟨b, 10, none⟩ (.int .u32 1)).drew.setCell ⟨b, 11, none⟩ (.int .i32 0)).cell? ⟨b, i, none⟩ = some v := fun i hi n1 n0 v hv => by
    refine other_cell (other_off n1) ?_
    rw [World.cell?_drew]
    refine other_cell (other_off n0) ?_
    rw [hh i hi]
    exact other_cell (other_off n1) hv
  have d : ((w2.setCell ⟨b, 10, none⟩ (.int .u32 1)).drew.setCell ⟨b, 11, none⟩ (.int .i32 0)).cell? ⟨b, 10, none⟩ = some (.int .u32 1) := by
    refine other_cell (other_off (by omega)) ?_
    rw [World.cell?_drew]
    refine World.cell?_setCell_same _ _ _ (u := .int .u32 0) ?_
    rw [hh 10 (by omega)]
    exact other_cell (other_off (by omega)) h0
  have e : ((w2.setCell ⟨b, 10, none⟩ (.int .u32 1)).drew.setCell ⟨b, 11, none⟩ (.int .i32 0)).cell? ⟨b, 13, none⟩ = some s := by
    refine other_cell (other_off (by omega)) ?_
    rw [World.cell?_drew]
    exact other_cell (other_off (by omega)) hs
  have g2 : w2.grownBy ((w2.setCell ⟨b, 10, none⟩ (.int .u32 1)).drew.setCell ⟨b, 11, none⟩ (.int .i32 0)) (some b) := by
    have a := grown_set w2 ⟨b, 10, none⟩ (.int .u32 1)
    have a' : w2.grownBy (w2.setCell ⟨b, 10, none⟩ (.int .u32 1)).drew (some b) := ⟨a.os, a.tape, a.output, a.size, a.block⟩
    exact grown_more a' (grown_set _ ⟨b, 11, none⟩ _) (by simp)
  refine ⟨grown_more (grown_more (grown_set w ⟨b, 11, none⟩ (.int .i32 1)) g (by simp)) g2 (by simp), ⟨⟨k 0 (by omega) (by omega) (by omega) _ h.c0, k 1 (by omega) (by omega) (by omega) _ h.c1, k 2 (by omega) (by omega) (by omega) _ h.c2, k 3 (by omega) (by omega) (by omega) _ h.c3, k 4 (by omega) (by omega) (by omega) _ h.c4, k 5 (by omega) (by omega) (by omega) _ h.c5, k 6 (by omega) (by omega) (by omega) _ h.c6, k 7 (by omega) (by omega) (by omega) _ h.c7, k 8 (by omega) (by omega) (by omega) _ h.c8, k 9 (by omega) (by omega) (by omega) _ h.c9, fun i => ?_⟩, .inr ⟨d, s, e, hT.kept g2 (.inr rfl)⟩⟩, d⟩
  rw [World.frozen?_setCell, World.frozen?_drew, World.frozen?_setCell]
  exact hf i

set_option maxRecDepth 100000 in
set_option maxHeartbeats 1600000 in
theorem slow_first (b : Nat) (z : Zon.Z) (hz : z.ok) (w : World) (h : Zn w b z) (h0 : w.cell? ⟨b, 10, none⟩ = some (.int .u32 0)) (h1 : w.cell? ⟨b, 11, none⟩ = some (.int .i32 0)) (ht : w.cell? ⟨b, 13, none⟩ = some (.slice none 0 0)) :
    Calls Tryd.prog 67 #[.pointer (some ⟨b, 10, none⟩), .func (.func 59) #[.pointer (some ⟨b, 0, none⟩)] #[]] w fun e w' => e = .returned (.tuple #[]) ∧ Asked w w' b z := by
  have f1 := h.free 11
  have hl := run_call_load (P := Tryd.prog) Tryd.func74 (by kernel_rfl) (by kernel_rfl) (by kernel_rfl) .u32 (by kernel_rfl) (w := w.setCell ⟨b, 11, none⟩ (.int .i32 1)) (a := ⟨b, 10, none⟩) (x := 0) (other_cell (other_off (by omega)) h0)
  have hnot : ∀ (x : Bool) (w : World), (Op.unary .not (.bool x)).run Tryd.prog w = .ok (.bool (!x)) w := fun _ _ => rfl
  obtain ⟨ht', hk⟩ := h.locked h0 ht h1
  have hZ : Zr (w.setCell ⟨b, 11, none⟩ (.int .i32 1)) b z := by
    refine ⟨(hk 0 (by omega)).trans h.c0, (hk 1 (by omega)).trans h.c1, (hk 2 (by omega)).trans h.c2, (hk 3 (by omega)).trans h.c3, (hk 4 (by omega)).trans h.c4, (hk 5 (by omega)).trans h.c5, (hk 6 (by omega)).trans h.c6, (hk 7 (by omega)).trans h.c7, (hk 8 (by omega)).trans h.c8, (hk 9 (by omega)).trans h.c9, fun i => ?_⟩
    rw [World.frozen?_setCell]; exact h.free i
  have HS := reckon_any b z hz _ hZ ht'
  clear hk
  go_enter_defers Tryd.func67, Tryd.ntmps67
  go_wp2_with (first | (go_at_call 75; refine (lock_free ⟨b, 11, none⟩ _ h1 f1).mono ?_; rintro e w' ⟨rfl, rfl⟩) | (go_at_call 66; go_in) | (go_at_call 59; refine HS.mono ?_; rintro e w2 ⟨rfl, hF⟩))
  -- the door: two deferred calls, the last laid first
  obtain ⟨g, hh, hf, s, hs, hT⟩ := hF
  have c0 : w2.cell? ⟨b, 10, none⟩ = some (.int .u32 0) := (hh 10 (by omega)).trans (other_cell (other_off (by omega)) h0)
  have c1 : w2.cell? ⟨b, 11, none⟩ = some (.int .i32 1) := (hh 11 (by omega)).trans (World.cell?_setCell_same _ _ _ h1)
  have hM := asked_of h h1 h0 g hh hf hs hT
  refine leaves_cons (f := 77) (args := #[.pointer (some ⟨b, 10, none⟩), .bool true]) (by simp) (by simp [go_sem]) ?_
  refine (store_deferred ⟨b, 10, none⟩ (.int .u32 0) .returning _ c0 (hf 10)).mono ?_
  rintro e u' w'' ⟨rfl, rfl, rfl⟩
  refine leaves_cons (f := 76) (args := #[.pointer (some ⟨b, 11, none⟩)]) (by simp [settle]) (by simp [go_sem]) ?_
  refine (unlock_deferred ⟨b, 11, none⟩ _ _ ?_ ?_).mono ?_
  · rw [World.cell?_drew]; exact other_cell (other_off (by omega)) c1
  · rw [World.frozen?_drew, World.frozen?_setCell]; exact hf 11
  rintro e u' w'' ⟨rfl, rfl, rfl⟩
  simp [Leaves, settle, results, Tryd.results67]
  exact hM

set_option maxRecDepth 100000 in
set_option maxHeartbeats 1600000 in
theorem do_first (b : Nat) (z : Zon.Z) (hz : z.ok) (w : World) (h : Zn w b z) (h0 : w.cell? ⟨b, 10, none⟩ = some (.int .u32 0)) (h1 : w.cell? ⟨b, 11, none⟩ = some (.int .i32 0)) (ht : w.cell? ⟨b, 13, none⟩ = some (.slice none 0 0)) :
    Calls Tryd.prog 58 #[.pointer (some ⟨b, 10, none⟩), .func (.func 59) #[.pointer (some ⟨b, 0, none⟩)] #[]] w fun e w' => e = .returned (.tuple #[]) ∧ Asked w w' b z := by
  have hl := run_call_load (P := Tryd.prog) Tryd.func74 (by kernel_rfl) (by kernel_rfl) (by kernel_rfl) .u32 (by kernel_rfl) h0
  have hnot : ∀ (x : Bool) (w : World), (Op.unary .not (.bool x)).run Tryd.prog w = .ok (.bool (!x)) w := fun _ _ => rfl
  go_enter Tryd.func58, Tryd.ntmps58
  go_wp2_with (first | (go_at_call 67; refine (slow_first b z hz _ h h0 h1 ht).mono ?_; rintro e w' ⟨rfl, hM⟩) | (go_at_call 66; go_in))
  go_end0
  exact ⟨rfl, hM⟩

theorem do_done (b : Nat) (fv : Value) (w : World) (h0 : w.cell? ⟨b, 10, none⟩ = some (.int .u32 1)) :
    Calls Tryd.prog 58 #[.pointer (some ⟨b, 10, none⟩), fv] w fun e w' => e = .returned (.tuple #[]) ∧ w' = w := by
  have hl := run_call_load (P := Tryd.prog) Tryd.func74 (by kernel_rfl) (by kernel_rfl) (by kernel_rfl) .u32 (by kernel_rfl) h0
  have hnot : ∀ (x : Bool) (w : World), (Op.unary .not (.bool x)).run Tryd.prog w = .ok (.bool (!x)) w := fun _ _ => rfl
  go_enter Tryd.func58, Tryd.ntmps58
  go_wp2
  go_end0
  exact ⟨rfl, rfl⟩

/-- The zone has been asked for its turns: s tells them. -/
structure Rdy (w : World) (b : Nat) (z : Zon.Z) (s : Value) : Prop extends Zr w b z where
  done : w.cell? ⟨b, 10, none⟩ = some (.int .u32 1)
  turns : w.cell? ⟨b, 13, none⟩ = some s
  told : Turns w s z b
theorem Rdy.zn {w : World} {b : Nat} {z : Zon.Z} {s : Value} (h : Rdy w b z s) : Zn w b z := ⟨h.toZr, .inr ⟨h.done, s, h.turns, h.told⟩⟩
theorem Rdy.kept {w w' : World} {b : Nat} {z : Zon.Z} {s : Value} (h : Rdy w b z s) (g : w.grownBy w' none) : Rdy w' b z s :=
  ⟨(h.zn.kept g).toZr, g.cell h.done (by simp), g.cell h.turns (by simp), h.told.kept g (.inl rfl)⟩
theorem Zn.ready {w : World} {b : Nat} {z : Zon.Z} (h : Zn w b z) (hd : w.cell? ⟨b, 10, none⟩ = some (.int .u32 1)) : ∃ s, Rdy w b z s := by
  rcases h.state with ⟨a, _, _⟩ | ⟨a, s, c, d⟩
  · rw [a] at hd; cases hd
  · exact ⟨s, h.toZr, a, c, d⟩

set_option maxRecDepth 100000 in
theorem ask_first (b : Nat) (z : Zon.Z) (hz : z.ok) (w : World) (h : Zn w b z) (h0 : w.cell? ⟨b, 10, none⟩ = some (.int .u32 0)) (h1 : w.cell? ⟨b, 11, none⟩ = some (.int .i32 0)) (ht : w.cell? ⟨b, 13, none⟩ = some (.slice none 0 0)) :
    Calls Tryd.prog 49 #[.pointer (some ⟨b, 0, none⟩)] w fun e w' => ∃ s, e = .returned s ∧ Rdy w' b z s ∧ w.grownBy w' (some b) := by
  have hmf : ∀ (fn : Fn) (first cap : Array Value) (w : World), (Instr.makeFunc fn first cap).run Tryd.prog w = .ok (.func fn first cap) w := fun _ _ _ _ => rfl
  go_enter Tryd.func49, Tryd.ntmps49
  go_wp2_with (go_at_call 58; refine (do_first b z hz _ h h0 h1 ht).mono ?_; rintro e w' ⟨rfl, hM⟩; obtain ⟨s, hR⟩ := hM.zone.ready hM.done; have hs := hR.turns)
  go_ret
  exact ⟨s, rfl, hR, hM.grown⟩
set_option maxRecDepth 100000 in
theorem ask_again (b : Nat) (z : Zon.Z) (s : Value) (w : World) (h : Rdy w b z s) :
    Calls Tryd.prog 49 #[.pointer (some ⟨b, 0, none⟩)] w fun e w' => e = .returned s ∧ w' = w := by
  have hmf : ∀ (fn : Fn) (first cap : Array Value) (w : World), (Instr.makeFunc fn first cap).run Tryd.prog w = .ok (.func fn first cap) w := fun _ _ _ _ => rfl
  have hs := h.turns
  have hd := do_done b (.func (.func 59) #[.pointer (some ⟨b, 0, none⟩)] #[]) w h.done
  clear h
  go_enter Tryd.func49, Tryd.ntmps49
  go_wp2_with (go_at_call 58; refine hd.mono ?_; rintro e w' ⟨rfl, rfl⟩)
  go_ret
  exact ⟨rfl, rfl⟩
/-- Asked for the turns, whatever was asked before. -/
theorem ask_any (b : Nat) (z : Zon.Z) (hz : z.ok) (w : World) (h : Zn w b z) :
    Calls Tryd.prog 49 #[.pointer (some ⟨b, 0, none⟩)] w fun e w' => ∃ s, e = .returned s ∧ Rdy w' b z s ∧ w.grownBy w' (some b) := by
  rcases h.state with ⟨h0, h1, ht⟩ | ⟨h0, _⟩
  · exact ask_first b z hz w h h0 h1 ht
  · obtain ⟨s, hR⟩ := h.ready h0
    refine (ask_again b z s w hR).mono fun e w' ⟨he, hw⟩ => ?_
    subst hw
    exact ⟨s, he, hR, grown_refl _ _⟩
end Go.Proofs.YteiiapnpdfgoaaaDoor
