/- 'ZoneInstants', walked. -/
import Derived.Test.YtlnafkcoicaefaaDoorZRefInst
import Derived.Deep.Cut
import Derived.Deep.CutRange
import Derived.Deep.DeepCutAuto
import Derived.Deep.RegionWith
namespace Go.Proofs.YtlnafkcoicaefaaDoor
open Go.RowKit
set_option linter.unusedVariables false

set_option maxRecDepth 100000 in
set_option maxHeartbeats 800000 in
theorem insts_bad (w : World) (hK : Kn w) (z : Zon.Z) (hz : ¬ z.ok) (a : Option Addr) (n c : Nat) :
    Calls Tryd.prog 3 #[zon z, .slice a n c] w fun e w' => e = .returned (.bool true) ∧ Below w.heap.size w w' := by
  have hnot : ∀ (x : Bool) (w : World), (Op.unary .not (.bool x)).run Tryd.prog w = .ok (.bool (!x)) w := fun _ _ => rfl
  have A := fun o => awake_any (w.alloc o) (hK.alloc o)
  have M := make_bad z hz
  have RB := rRight_bad z hz
  clear hz hK
  go_enter Tryd.func3, Tryd.ntmps3
  go_wp2_with (first
    | (go_at_call 8; go_must (refine (A _).mono ?_); rintro e w1 ⟨rfl, hg1⟩; have hC := c10_new hg1; obtain ⟨c0, c1, c2, c3, c4, c5, c6, c7, c8, c9⟩ := hC)
    | (go_at_call 9; go_must (refine (M _).mono ?_); rintro e w2 ⟨rfl, hg2⟩; obtain ⟨d0, d1, d2, d3, d4, d5, d6, d7, d8, d9⟩ := (C10.mk c0 c1 c2 c3 c4 c5 c6 c7 c8 c9).kept hg2 (by simp))
    | (go_at_call 10; go_must (refine (RB _).mono ?_); rintro e w3 ⟨rfl, hg3⟩))
  go_ret
  exact ⟨rfl, grown_below (grown_more (grown_more (grown_more (World.grownBy_alloc w _ none) hg1 (by simp)) hg2 (by simp)) hg3 (by simp))⟩

/-- Both 'Instants' of one minute tell the same numbers. -/
theorem inst_both (z : Zon.Z) (hz : z.ok) (y m d h n k : Int) : ∃ l : List Int, l.length ≤ 100 ∧
    (∀ b w, Zn w b z → Calls Tryd.prog 12 #[.pointer (some ⟨b, 0, none⟩), civ y m d h n k] w fun e w' => ∃ v, e = .returned v ∧ OwnI w' w.heap.size v l ∧ Zn w' b z ∧ w.grownBy w' (some b)) ∧
    ∀ w, Calls Tryd.prog 13 #[zon z, civ y m d h n k] w fun e w' => ∃ v, e = .returned v ∧ OwnI w' w.heap.size v l ∧ w.grownBy w' none := by
  by_cases hT : Thr y m d h n
  · exact ⟨z.ins (inst y m d h n), Nat.le_trans (Zon.ins_len _ _) (by omega), fun b w hw => instants_any b z hz y m d h n k hT w hw, fun w => rInstants_any z hz y m d h n k hT w⟩
  · refine ⟨[], by simp, fun b w hw => (instants_bad b z y m d h n k hT w hw).mono fun e w' ⟨he, hg⟩ => ⟨_, he, World.ownsRow_nil _ _ _ _, hw.kept hg, grown_more (grown_refl w (some b)) hg (by simp)⟩, fun w => (rInstants_bad z y m d h n k hT w).mono fun e w' ⟨he, hg⟩ => ⟨_, he, World.ownsRow_nil _ _ _ _, hg⟩⟩

theorem Six.kept {w w' : World} {b o : Nat} {y m d h n k : Int} {row : Option Nat} (s : Six w b o y m d h n k) (g : w.grownBy w' row) (hb : some b ≠ row) : Six w' b o y m d h n k :=
  ⟨g.cell s.c0 hb, g.cell s.c1 hb, g.cell s.c2 hb, g.cell s.c3 hb, g.cell s.c4 hb, g.cell s.c5 hb⟩

set_option maxRecDepth 100000 in
set_option maxHeartbeats 6400000 in
theorem insts_ok (w : World) (hK : Kn w) (z : Zon.Z) (hz : z.ok) (a : Option Addr) (n c : Nat) (hS : Sc w a n) (hn : n ≤ 9223372036854775807) :
    Calls Tryd.prog 3 #[zon z, .slice a n c] w fun e w' => e = .returned (.bool true) ∧ Below w.heap.size w w' := by
  have hnot : ∀ (x : Bool) (w : World), (Op.unary .not (.bool x)).run Tryd.prog w = .ok (.bool (!x)) w := fun _ _ => rfl
  have A := fun o => awake_any (w.alloc o) (hK.alloc o)
  have M := make_ok z hz
  clear hK
  go_enter Tryd.func3, Tryd.ntmps3
  go_wp2_with (first
    | (go_at_call 8; go_must (refine (A _).mono ?_); rintro e w1 ⟨rfl, hg1⟩; have hC := c10_new hg1; obtain ⟨c0, c1, c2, c3, c4, c5, c6, c7, c8, c9⟩ := hC)
    | (go_at_call 9; go_must (refine (M _).mono ?_); rintro e w2 ⟨b, rfl, hg2, hb1, hb2, hZ⟩))
  have hs1 := hg1.size
  simp at hs1
  have hwb : w.heap.size < b := by omega
  have G2 := grown_more (grown_more (World.grownBy_alloc w _ none) hg1 (by simp)) hg2 (by simp)
  have hC := (C10.mk c0 c1 c2 c3 c4 c5 c6 c7 c8 c9).kept hg2 (by simp)
  clear c0 c1 c2 c3 c4 c5 c6 c7 c8 c9 hg1 hg2 hb1 hb2 hs1 A M
  go_loopw [7] (fun i wr => ∃ j : Nat, j ≤ n ∧ j ≤ 256 ∧ i = .int .i64 j ∧ Zn wr b z ∧ w2.grownBy wr (some b)) (fun i _ => (400 - intOf i).toNat)
  case atStart => exact ⟨0, by omega, by omega, rfl, hZ, grown_refl _ _⟩
  case round =>
    clear hZ
    obtain ⟨j, hj, hj6, rfl, hZ, hG⟩ := hrel
    by_cases hgo : j < n ∧ j < 256
    · obtain ⟨hjn, hj5⟩ := hgo
      obtain ⟨q, off, y, m, d, h, n', k, rfl, hX⟩ := (hS.kept (below_new G2 (b := b) (by omega) hG)) j hjn
      have hqb : some q ≠ some b := by
        obtain ⟨q', off', _, _, _, _, _, _, e, hX'⟩ := hS j hjn
        injection e with e
        injection e with e1 e2
        have := World.block_lt_of_cell? w _ hX'.c0
        simp only at this
        simp
        omega
      have hCr := hC.kept hG (by simp; omega)
      obtain ⟨l, hl, IN, RI⟩ := inst_both z hz y m d h n' k
      have gd : wr.grownBy wr.drew none := ⟨rfl, rfl, rfl, Nat.le_refl _, fun _ _ _ => rfl⟩
      have INb := IN b wr.drew (hZ.kept gd)
      obtain ⟨x0, x1, x2, x3, x4, x5⟩ := hX
      obtain ⟨c0, c1, c2, c3, c4, c5, c6, c7, c8, c9⟩ := hCr
      clear hS IN
      go_upto_region 9 with fail
      go_cut [47] from 24 to 46 (fun v wx => v = .bool false ∧ Zn wx b z ∧ w2.grownBy wx (some b))
      case first =>
        go_region_with (first
          | (go_at_call 12; refine INb.mono ?_; rintro e w5 ⟨v5, rfl, hO5, hZ5, hg5⟩; have y0 := hg5.cell x0 hqb; have y1 := hg5.cell x1 hqb; have y2 := hg5.cell x2 hqb; have y3 := hg5.cell x3 hqb; have y4 := hg5.cell x4 hqb; have y5 := hg5.cell x5 hqb; have e0 := hg5.cell c0 (by simp; omega); have e1 := hg5.cell c1 (by simp; omega); have e2 := hg5.cell c2 (by simp; omega); have e3 := hg5.cell c3 (by simp; omega); have e4 := hg5.cell c4 (by simp; omega); have e5 := hg5.cell c5 (by simp; omega); have e6 := hg5.cell c6 (by simp; omega); have e7 := hg5.cell c7 (by simp; omega); have e8 := hg5.cell c8 (by simp; omega); have e9 := hg5.cell c9 (by simp; omega))
          | (go_at_call 13; refine (RI _).mono ?_; rintro e w6 ⟨v6, rfl, hO6, hg6⟩)
          | (go_at_call 11; refine (longs_same _ (hO5.kept hg6 (by simp)) hO6 hl).mono ?_; rintro e w7 ⟨rfl, hg7⟩))
        all_goals (try go_wp2_with fail)
        all_goals go_meet
        all_goals exact ⟨rfl, (hZ5.kept hg6).kept hg7, grown_more (grown_more (grown_more (grown_more hG gd (by simp)) hg5 (by simp)) hg6 (by simp)) hg7 (by simp)⟩
      case rest =>
        obtain ⟨rfl, hZw, hGw⟩ := hcut
        go_wp2_with fail
        go_roundw
        case rel => exact ⟨j + 1, by omega, by omega, val_int (by omega), hZw, hGw⟩
        case measure => simp [intOf]; omega
    · have GF := below_new G2 (b := b) (by omega) hG
      clear hS
      by_cases hjn : j < n
      · have g6 : decide ((j : Int) < 256) = false := decide_eq_false (by omega)
        go_wp2_with fail
        go_ret
        exact ⟨rfl, grown_below GF⟩
      · have g6 : decide ((j : Int) < n) = false := decide_eq_false (by omega)
        go_wp2_with fail
        go_ret
        exact ⟨rfl, grown_below GF⟩

/-- For every zone's rules and all minutes 'ZoneInstants' answers true. -/
theorem zoneInstants.walk (w : World) (hK : Kn w) (v : Value) (hv : ∃ z, v = zon z) (l : Value) (hl : ∃ a n c, l = .slice a n c ∧ Sc w a n ∧ n ≤ 9223372036854775807) :
    Calls Tryd.prog 3 #[v, l] w fun e w' => e = .returned (.bool true) ∧ Below w.heap.size w w' := by
  obtain ⟨z, rfl⟩ := hv
  obtain ⟨a, n, c, rfl, hS, hn⟩ := hl
  by_cases hz : z.ok
  · exact insts_ok w hK z hz a n c hS hn
  · exact insts_bad w hK z hz a n c
end Go.Proofs.YtlnafkcoicaefaaDoor
