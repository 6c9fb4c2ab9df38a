/- A zone that was asked stays as it is: what 'Local' and 'Turn' leave of it. -/
import Derived.Test.YteiiapnpdfgoaaaDoorZPast
namespace Go.Proofs.YteiiapnpdfgoaaaDoor
open Go.RowKit
set_option linter.unusedVariables false

set_option maxRecDepth 100000 in
set_option maxHeartbeats 400000 in
theorem turn_gen (b : Nat) (z : Zon.Z) (hz : z.ok) (t : Int) (t1 : 0 ≤ t) (t2 : t ≤ 226157759) (w : World) (Y : Value → Prop)
    (A : Calls Tryd.prog 40 #[.pointer (some ⟨b, 0, none⟩), .int .i64 t] w fun e w' => e = .returned (.tuple #[.int .i64 (z.past t : Nat), .int .i64 0]) ∧ ∃ s, Rdy w' b z s ∧ Y s ∧ w.grownBy w' (some b)) :
    Calls Tryd.prog 37 #[.pointer (some ⟨b, 0, none⟩), .int .i64 t] w fun e w' => e = .returned (.tuple #[.int .i64 (z.turn t), .int .i64 0]) ∧ ∃ s, Rdy w' b z s ∧ Y s ∧ w.grownBy w' (some b) := by
  have hp : z.past t ≤ z.n := (Zon.Past.is hz t).le
  obtain ⟨r, hr⟩ : ∃ r, r = z.turn t := ⟨_, rfl⟩
  have HR : Hid (r = if z.past t = z.n then 226157760 else Zon.T z (z.past t)) := hr
  rw [← hr]
  obtain ⟨p, hp'⟩ : ∃ p, p = z.past t := ⟨_, rfl⟩
  rw [← hp'] at A HR hp
  clear hr hp' t1 t2 hz
  have B := fun s w (h : Rdy w b z s) => ask_again b z s w h
  by_cases hs : z.s = 0
  · have hn : z.n = 0 := by unfold Zon.Z.n; rw [if_pos hs]
    obtain rfl : p = 0 := by omega
    have HE : Hid (r = 226157760) := by show r = _; rw [HR.out, if_pos hn.symm]
    have HN : ∀ w s, Rdy w b z s → s = .slice none 0 0 := fun w s h => by
      rcases h.told with ⟨_, e⟩ | ⟨k, _⟩
      · exact e
      · exact absurd hs k
    clear hn hp hs
    go_enter Tryd.func37, Tryd.ntmps37
    go_wp2_with (first
      | (go_at_call 40; go_must (refine A.mono ?_); rintro e w1 ⟨rfl, s, hR, hY, hg⟩; obtain rfl := HN _ _ hR)
      | (go_at_call 49; go_must (refine (B _ _ hR).mono ?_); rintro e w2 ⟨rfl, rfl⟩))
    go_ret2
    exact ⟨congrArg (fun x => Ending.returned (.tuple #[.int .i64 x, .int .i64 0])) HE.out.symm, _, hR, hY, hg⟩
  · have hn : z.n = 860 := by unfold Zon.Z.n; rw [if_neg hs]
    have HN : ∀ w s, Rdy w b z s → ∃ q, s = .slice (some ⟨q, 0, none⟩) 860 860 ∧ ∀ i, i < 860 → w.cell? ⟨q, i, none⟩ = some (.int .i64 (Zon.T z i)) := fun w s h => by
      rcases h.told with ⟨k, _⟩ | ⟨_, q, _, e, c⟩
      · exact absurd k hs
      · exact ⟨q, e, c⟩
    rw [hn] at hp
    by_cases hlast : p = 860
    · subst hlast
      have HE : Hid (r = 226157760) := by show r = _; rw [HR.out, if_pos hn.symm]
      clear hn hp hs
      go_enter Tryd.func37, Tryd.ntmps37
      go_wp2_with (first
        | (go_at_call 40; go_must (refine A.mono ?_); rintro e w1 ⟨rfl, s, hR, hY, hg⟩; obtain ⟨q, rfl, _⟩ := HN _ _ hR)
        | (go_at_call 49; go_must (refine (B _ _ hR).mono ?_); rintro e w2 ⟨rfl, rfl⟩))
      go_ret2
      exact ⟨congrArg (fun x => Ending.returned (.tuple #[.int .i64 x, .int .i64 0])) HE.out.symm, _, hR, hY, hg⟩
    · have HE : Hid (r = Zon.T z p) := by show r = _; rw [HR.out, if_neg (by omega)]
      have hp2 : p < 860 := by omega
      have hp3 : ((p : Int) == 860) = false := by simp; omega
      clear hn hp hs HR hlast
      go_enter Tryd.func37, Tryd.ntmps37
      go_wp2_with (first
        | (go_at_call 40; go_must (refine A.mono ?_); rintro e w1 ⟨rfl, s, hR, hY, hg⟩; obtain ⟨q, rfl, hc⟩ := HN _ _ hR; have cp := hc p hp2; clear hc)
        | (go_at_call 49; go_must (refine (B _ _ hR).mono ?_); rintro e w2 ⟨rfl, rfl⟩))
      go_ret2
      exact ⟨congrArg (fun x => Ending.returned (.tuple #[.int .i64 x, .int .i64 0])) HE.out.symm, _, hR, hY, hg⟩

set_option maxRecDepth 100000 in
set_option maxHeartbeats 1600000 in
theorem local_gen (b : Nat) (z : Zon.Z) (hz : z.ok) (t : Int) (t1 : 0 ≤ t) (t2 : t ≤ 226157759) (y m d h n k er : Int) (Y : Value → Prop)
    (F : ∀ w, Calls Tryd.prog 12 #[.int .i64 (t + z.at t)] w fun e w' => e = .returned (.tuple #[civ y m d h n k, .int .i64 er]) ∧ w.grownBy w' none) (w : World) (hlt : b < w.heap.size)
    (A : ∀ o, Calls Tryd.prog 29 #[.pointer (some ⟨b, 0, none⟩), .int .i64 t] (w.alloc o) fun e w' => e = .returned (.tuple #[.int .i64 (z.at t), .int .i64 0]) ∧ ∃ s, Rdy w' b z s ∧ Y s ∧ (w.alloc o).grownBy w' (some b)) :
    Calls Tryd.prog 46 #[.pointer (some ⟨b, 0, none⟩), .int .i64 t] w fun e w' => e = .returned (.tuple #[civ y m d h n k, .int .i64 er]) ∧ ∃ s, Rdy w' b z s ∧ Y s ∧ w.grownBy w' (some b) := by
  have hb := Zon.at_bd hz t
  obtain ⟨o, ho⟩ : ∃ o, o = z.at t := ⟨_, rfl⟩
  rw [← ho] at F hb
  simp only [← ho] at A
  obtain ⟨hb1, hb2⟩ := hb
  clear ho hz
  go_enter Tryd.func46, Tryd.ntmps46
  go_wp2_with (first
    | (go_at_call 29; go_must (refine (A _).mono ?_); rintro e w1 ⟨rfl, s, hR, hY, hg⟩)
    | (go_at_call 12; go_must (refine (F _).mono ?_); rintro e w2 ⟨rfl, hg2⟩; have hR2 := hR.kept hg2; have q0 := hg2.cell (cell_kept_b hg hlt 0 _ rfl) (by simp); have q1 := hg2.cell (cell_kept_b hg hlt 1 _ rfl) (by simp); have q2 := hg2.cell (cell_kept_b hg hlt 2 _ rfl) (by simp); have q3 := hg2.cell (cell_kept_b hg hlt 3 _ rfl) (by simp); have q4 := hg2.cell (cell_kept_b hg hlt 4 _ rfl) (by simp); have q5 := hg2.cell (cell_kept_b hg hlt 5 _ rfl) (by simp); have f0 := frozen_none hg2 (cell_kept_b hg hlt 0 _ rfl) (frozen_kept_b hg hlt 0); have f1 := frozen_none hg2 (cell_kept_b hg hlt 1 _ rfl) (frozen_kept_b hg hlt 1); have f2 := frozen_none hg2 (cell_kept_b hg hlt 2 _ rfl) (frozen_kept_b hg hlt 2); have f3 := frozen_none hg2 (cell_kept_b hg hlt 3 _ rfl) (frozen_kept_b hg hlt 3); have f4 := frozen_none hg2 (cell_kept_b hg hlt 4 _ rfl) (frozen_kept_b hg hlt 4); have f5 := frozen_none hg2 (cell_kept_b hg hlt 5 _ rfl) (frozen_kept_b hg hlt 5)))
  have hs1 := hg.size
  have hs2 := hg2.size
  simp at hs1
  have hn : w2.cell? ⟨w.heap.size, 859, none⟩ = none := by
    rw [cell_grown hg2 (a := ⟨w.heap.size, 859, none⟩) (by simp; omega) (by simp), cell_grown hg (a := ⟨w.heap.size, 859, none⟩) (by simp) (by simp; omega), World.cell?_alloc_new]
    rfl
  have hC := set6_cells q0 q1 q2 q3 q4 q5 y m d h n k
  have hR3 := hR2.row (set6_row w2 w.heap.size y m d h n k) (by omega) hn
  have g0 : w.grownBy w2 (some b) := grown_more (grown_more (grown_more (grown_refl w (some b)) (World.grownBy_alloc w _ none) (by simp)) hg (by simp)) hg2 (by simp)
  have g3 := set6_grown g0 (Nat.le_refl w.heap.size) y m d h n k
  unfold set6 at hC hR3 g3
  generalize ((((((w2.setCell ⟨w.heap.size, 0, none⟩ (.int .i64 y)).setCell ⟨w.heap.size, 1, none⟩ (.int .i64 m)).setCell ⟨w.heap.size, 2, none⟩ (.int .i64 d)).setCell ⟨w.heap.size, 3, none⟩ (.int .i64 h)).setCell ⟨w.heap.size, 4, none⟩ (.int .i64 n)).setCell ⟨w.heap.size, 5, none⟩ (.int .i64 k)) = W at hC hR3 g3 ⊢
  have r0 := hC.c0
  have r1 := hC.c1
  have r2 := hC.c2
  have r3 := hC.c3
  have r4 := hC.c4
  have r5 := hC.c5
  refine bodyPost_ret (v := .tuple #[civ y m d h n k, .int .i64 er]) (by simp [results, Tryd.results46, go_sem, r0, r1, r2, r3, r4, r5]) rfl ?_
  exact ⟨rfl, s, hR3, hY, g3⟩

/-- 'Local' of a zone, asked or not; of one that was asked. -/
theorem local_zn (b : Nat) (z : Zon.Z) (hz : z.ok) (t : Int) (t1 : 0 ≤ t) (t2 : t ≤ 226157759) (y m d h n k er : Int)
    (F : ∀ w, Calls Tryd.prog 12 #[.int .i64 (t + z.at t)] w fun e w' => e = .returned (.tuple #[civ y m d h n k, .int .i64 er]) ∧ w.grownBy w' none) (w : World) (hw : Zn w b z) :
    Calls Tryd.prog 46 #[.pointer (some ⟨b, 0, none⟩), .int .i64 t] w fun e w' => e = .returned (.tuple #[civ y m d h n k, .int .i64 er]) ∧ w.grownBy w' (some b) ∧ ∃ s, Rdy w' b z s :=
  (local_by b z hz t t1 t2 y m d h n k er F w hw).mono fun e w' ⟨he, s, hR, hg⟩ => ⟨he, hg, s, hR⟩
theorem local_rdy (b : Nat) (z : Zon.Z) (hz : z.ok) (t : Int) (t1 : 0 ≤ t) (t2 : t ≤ 226157759) (y m d h n k er : Int)
    (F : ∀ w, Calls Tryd.prog 12 #[.int .i64 (t + z.at t)] w fun e w' => e = .returned (.tuple #[civ y m d h n k, .int .i64 er]) ∧ w.grownBy w' none) (w : World) (s0 : Value) (hw : Rdy w b z s0) :
    Calls Tryd.prog 46 #[.pointer (some ⟨b, 0, none⟩), .int .i64 t] w fun e w' => e = .returned (.tuple #[civ y m d h n k, .int .i64 er]) ∧ w.grownBy w' (some b) ∧ Rdy w' b z s0 :=
  (local_gen b z hz t t1 t2 y m d h n k er (fun s => s = s0) F w (World.block_lt_of_cell? w _ hw.c0) (fun o =>
    (offset_again b z hz t t1 t2 (w.alloc o) s0 (hw.kept (World.grownBy_alloc w o none))).mono fun e w' ⟨he, hR, hg⟩ => ⟨he, s0, hR, rfl, grown_more (grown_refl _ _) hg (by simp)⟩)).mono fun e w' ⟨he, s, hR, hs, hg⟩ => ⟨he, hg, hs ▸ hR⟩
theorem turn_zn (b : Nat) (z : Zon.Z) (hz : z.ok) (t : Int) (t1 : 0 ≤ t) (t2 : t ≤ 226157759) (w : World) (hw : ∃ s, Rdy w b z s) :
    Calls Tryd.prog 37 #[.pointer (some ⟨b, 0, none⟩), .int .i64 t] w fun e w' => e = .returned (.tuple #[.int .i64 (z.turn t), .int .i64 0]) ∧ w.grownBy w' (some b) ∧ ∃ s, Rdy w' b z s := by
  obtain ⟨s, hR⟩ := hw
  exact (turn_any b z hz t t1 t2 w hR.zn).mono fun e w' ⟨he, s, hR, hg⟩ => ⟨he, hg, s, hR⟩
theorem turn_rdy (b : Nat) (z : Zon.Z) (hz : z.ok) (t : Int) (t1 : 0 ≤ t) (t2 : t ≤ 226157759) (w : World) (s0 : Value) (hw : Rdy w b z s0) :
    Calls Tryd.prog 37 #[.pointer (some ⟨b, 0, none⟩), .int .i64 t] w fun e w' => e = .returned (.tuple #[.int .i64 (z.turn t), .int .i64 0]) ∧ w.grownBy w' (some b) ∧ Rdy w' b z s0 :=
  (turn_gen b z hz t t1 t2 w (fun s => s = s0) ((past_again b z hz t t1 t2 w s0 hw).mono fun e w' ⟨he, s, hR, hs, hw'⟩ => ⟨he, s, hR, hs, by rw [hw']; exact grown_refl _ _⟩)).mono fun e w' ⟨he, s, hR, hs, hg⟩ => ⟨he, hg, hs ▸ hR⟩
end Go.Proofs.YteiiapnpdfgoaaaDoor
