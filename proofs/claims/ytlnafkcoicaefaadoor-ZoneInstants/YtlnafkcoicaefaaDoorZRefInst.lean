/- What the document's own 'Instants' answers; 'longs'. -/
import Derived.Test.YtlnafkcoicaefaaDoorZRefRight
namespace Go.Proofs.YtlnafkcoicaefaaDoor.Zon
/-- The instants by the offsets above n. -/
def Z.above (z : Z) (L n : Int) : List Int := (z.offs.filter fun o => decide (n < o)).filterMap (z.by L)
theorem above_start (z : Z) (h : z.ok) (L : Int) : z.above L (z.b + z.s) = [] := by
  have := h.2.2.1
  unfold Z.above Z.offs
  split
  · rename_i hs
    simp [hs]
  · have h1 : ¬ z.b + z.s < z.b := by omega
    simp [h1]
theorem above_end (z : Z) (h : z.ok) (L : Int) : z.above L (z.b - 1) = z.ins L := by
  have := h.2.2.1
  unfold Z.above Z.ins Z.offs
  split
  · have h1 : z.b - 1 < z.b := by omega
    simp [h1]
  · have h1 : z.b - 1 < z.b := by omega
    have h2 : z.b - 1 < z.b + z.s := by omega
    simp [h1, h2]
theorem above_skip (z : Z) (L n : Int) (h1 : n ≠ z.b) (h2 : n ≠ z.b + z.s) : z.above L (n - 1) = z.above L n := by
  unfold Z.above
  congr 1
  refine List.filter_congr fun o ho => ?_
  have : o ≠ n := by
    unfold Z.offs at ho
    split at ho <;> simp at ho <;> omega
  exact decide_eq_decide.mpr (by omega)
theorem above_step (z : Z) (h : z.ok) (L n : Int) (hn : n = z.b ∨ n = z.b + z.s) : z.above L (n - 1) = z.above L n ++ (match z.by L n with | some t => [t] | none => []) := by
  have := h.2.2.1
  unfold Z.above Z.offs
  by_cases hs : z.s = 0
  · simp only [if_pos hs]
    obtain rfl : n = z.b := by omega
    have h1 : z.b - 1 < z.b := by omega
    have h2 : ¬ z.b < z.b := by omega
    simp only [List.filter_cons, List.filter_nil, decide_eq_true h1, decide_eq_false h2, if_true, List.filterMap_cons, List.filterMap_nil]
    split <;> simp_all
  · simp only [if_neg hs]
    rcases hn with rfl | rfl
    · have h1 : z.b - 1 < z.b := by omega
      have h2 : ¬ z.b < z.b := by omega
      have h3 : z.b - 1 < z.b + z.s := by omega
      have h4 : z.b < z.b + z.s := by omega
      simp only [List.filter_cons, List.filter_nil, decide_eq_true h1, decide_eq_false h2, decide_eq_true h3, decide_eq_true h4, if_true, List.filterMap_cons, List.filterMap_nil]
      cases z.by L (z.b + z.s) <;> cases z.by L z.b <;> simp
    · have h1 : z.b + z.s - 1 < z.b + z.s := by omega
      have h2 : ¬ z.b + z.s < z.b + z.s := by omega
      have h3 : ¬ z.b + z.s - 1 < z.b := by omega
      have h4 : ¬ z.b + z.s < z.b := by omega
      simp only [List.filter_cons, List.filter_nil, decide_eq_true h1, decide_eq_false h2, decide_eq_false h3, decide_eq_false h4, if_true, List.filterMap_cons]
      cases z.by L (z.b + z.s) <;> simp
theorem above_len (z : Z) (L n : Int) : (z.above L n).length ≤ 2 := by
  unfold Z.above
  exact Nat.le_trans (List.length_filterMap_le _ _) (Nat.le_trans (List.length_filter_le _ _) (offs_len z))
end Go.Proofs.YtlnafkcoicaefaaDoor.Zon
namespace Go.Proofs.YtlnafkcoicaefaaDoor
open Go.RowKit
set_option linter.unusedVariables false

theorem C10.kept {w w' : World} {b : Nat} {z : Zon.Z} {row : Option Nat} (h : C10 w b z) (g : w.grownBy w' row) (hb : some b ≠ row) : C10 w' b z :=
  ⟨g.cell h.c0 hb, g.cell h.c1 hb, g.cell h.c2 hb, g.cell h.c3 hb, g.cell h.c4 hb, g.cell h.c5 hb, g.cell h.c6 hb, g.cell h.c7 hb, g.cell h.c8 hb, g.cell h.c9 hb⟩

set_option maxRecDepth 100000 in
theorem rInstants_bad (z : Zon.Z) (y m d h n k : Int) (hT : ¬ Thr y m d h n) (w : World) :
    Calls Tryd.prog 13 #[zon z, civ y m d h n k] w fun e w' => e = .returned (.slice none 0 0) ∧ w.grownBy w' none := by
  have T := rTo_bad y m d h n k hT
  clear hT
  go_enter Tryd.func13, Tryd.ntmps13
  go_wp2_with (go_at_call 24; go_must (refine (T _).mono ?_); rintro e w1 ⟨rfl, hg1⟩)
  go_ret
  exact ⟨rfl, grown_more (grown_alloc (World.grownBy_alloc w _ none) _) hg1 (by simp)⟩

set_option maxRecDepth 100000 in
set_option maxHeartbeats 3200000 in
theorem rInstants_any (z : Zon.Z) (hz : z.ok) (y m d h n k : Int) (hT : Thr y m d h n) (w : World) :
    Calls Tryd.prog 13 #[zon z, civ y m d h n k] w fun e w' => ∃ v, e = .returned v ∧ OwnI w' w.heap.size v (z.ins (inst y m d h n)) ∧ w.grownBy w' none := by
  have T := rTo_ok y m d h n k hT
  have hI := inst_bd hT
  obtain ⟨L, hL⟩ : ∃ L, L = inst y m d h n := ⟨_, rfl⟩
  rw [← hL] at T hI ⊢
  clear hL hT
  obtain ⟨hL1, hL2⟩ := hI
  have hb1 := hz.1
  have hb2 := hz.2.1
  have hs1 := hz.2.2.1
  have hs2 := hz.2.2.2.1
  go_enter Tryd.func13, Tryd.ntmps13
  go_wp2_with (go_at_call 24; go_must (refine (T _).mono ?_); rintro e w1 ⟨rfl, hg1⟩; have hC := c10_new (grown_more (World.grownBy_alloc _ _ none) hg1 (by simp)); have c0 := hC.c0; have c1 := hC.c1)
  have G1 := grown_more (grown_alloc (World.grownBy_alloc w _ none) _) hg1 (by simp)
  have hs := hg1.size
  simp at hs
  have hB : w.heap.size < w1.heap.size := by omega
  clear hg1 hs c0 c1 T
  go_loopw [7, 8] (fun f i wr => ∃ o : Int, z.b - 1 ≤ o ∧ o ≤ z.b + z.s ∧ i = .int .i64 o ∧ OwnI wr w1.heap.size f (z.above L o) ∧ C10 wr w.heap.size z ∧ w1.grownBy wr none) (fun _ i _ => (intOf i + 1000).toNat)
  case atStart => exact ⟨z.b + z.s, by omega, by omega, rfl, by rw [Zon.above_start z hz]; exact World.ownsRow_nil _ _ _ _, hC, grown_refl _ _⟩
  case round =>
    clear hC
    obtain ⟨o, ho1, ho2, rfl, hO, hC, hG⟩ := hrel
    obtain ⟨c0, c1, c2, c3, c4, c5, c6, c7, c8, c9⟩ := hC
    have hC : C10 wr w.heap.size z := ⟨c0, c1, c2, c3, c4, c5, c6, c7, c8, c9⟩
    by_cases hend : o < z.b
    · obtain rfl : o = z.b - 1 := by omega
      have g0 : decide (z.b ≤ z.b - 1) = false := decide_eq_false (by omega)
      rw [Zon.above_end z hz] at hO
      go_wp2_with fail
      go_ret
      refine ⟨_, rfl, ⟨hO.1, ?_⟩, grown_more G1 hG (by simp)⟩
      rcases hO.2 with h | ⟨g, cap, cur, e, hg, r⟩
      · exact .inl h
      · exact .inr ⟨g, cap, cur, e, by omega, r⟩
    · by_cases hin : o = z.b ∨ o = z.b + z.s
      · have HS : Hid _ := Zon.above_step z hz L o hin
        have hl := Zon.above_len z L o
        by_cases hzb : o = z.b
        · have g1 : (o != z.b) = false := by simp [hzb]
          clear hzb hin
          by_cases ht : 0 ≤ L - o ∧ L - o ≤ 226157759
          · obtain ⟨ht1, ht2⟩ := ht
            have A := rOffset_any z hz (L - o) ht1 ht2
            by_cases hat : z.at (L - o) = o
            · have HTk : Hid (z.above L (o - 1) = z.above L o ++ [L - o]) := by
                have hby : z.by L o = some (L - o) := by unfold Zon.Z.by; rw [if_pos ⟨ht1, ht2, hat⟩]
                have := HS.out
                rw [hby] at this
                exact this
              rw [hat] at A
              clear HS hat
              generalize z.above L o = l at hO HTk hl
              go_wp2_with (first
                | (go_at_call 25; go_must (refine (A _).mono ?_); rintro e w3 ⟨rfl, hg3⟩; have hO3 := hO.kept hg3 (by simp); have hb3 : w1.heap.size ≤ w3.heap.size := by (have := hG.size; have := hg3.size; omega))
                | (refine wpList_append_one rfl (.tmp 57) (.tmp 61) rfl w1.heap.size _ l rfl (hO3.kept (World.grownBy_alloc w3 _ none) (by simp)) w3.heap.size (L - o) rfl (by rw [World.cell?_alloc_new]; rfl) (by omega) (by simp; omega) ?_; intro v4 w4 hO4 hg4))
              go_roundw
              case rel =>
                have hk : ∀ k, u7.ownBlock = some k → w1.heap.size ≤ k := fun k e => (World.ownsRow.lt hO3 k e).1
                exact ⟨o - 1, by omega, by omega, rfl, by rw [HTk.out]; exact hO4, ((hC.kept hg3 (by simp)).kept (World.grownBy_alloc w3 _ none) (by simp)).kept hg4 (fun e => by have := hk _ e.symm; omega), grown_more (grown_alloc (grown_more hG hg3 (by simp)) _) hg4 (fun k e => .inr (hk k e))⟩
              case measure => simp [intOf]; omega
            · have HTk : Hid (z.above L (o - 1) = z.above L o) := by
                have hby : z.by L o = none := by unfold Zon.Z.by; rw [if_neg (fun h => hat h.2.2)]
                have := HS.out
                rw [hby] at this
                exact this.trans (List.append_nil _)
              have hat' : (z.at (L - o) == o) = false := by simpa using hat
              generalize z.at (L - o) = q at A hat'
              clear hat HS
              go_wp2_with (go_at_call 25; go_must (refine (A _).mono ?_); rintro e w3 ⟨rfl, hg3⟩)
              go_roundw
              case rel => exact ⟨o - 1, by omega, by omega, rfl, by rw [HTk.out]; exact hO.kept hg3 (by simp), hC.kept hg3 (by simp), grown_more hG hg3 (by simp)⟩
              case measure => simp [intOf]; omega
          · have HTk : Hid (z.above L (o - 1) = z.above L o) := by
              have hby : z.by L o = none := by unfold Zon.Z.by; rw [if_neg (fun h => ht ⟨h.1, h.2.1⟩)]
              have := HS.out
              rw [hby] at this
              exact this.trans (List.append_nil _)
            have A := rOffset_bad z (L - o) (by omega)
            clear ht HS
            go_wp2_with (go_at_call 25; go_must (refine (A _).mono ?_); rintro e w3 ⟨rfl, hg3⟩)
            go_roundw
            case rel => exact ⟨o - 1, by omega, by omega, rfl, by rw [HTk.out]; exact hO.kept hg3 (by simp), hC.kept hg3 (by simp), grown_more hG hg3 (by simp)⟩
            case measure => simp [intOf]; omega
        · have g1 : (o != z.b) = true := by simpa using hzb
          have g2 : (o != z.b + z.s) = false := by simp; omega
          clear hzb hin
          by_cases ht : 0 ≤ L - o ∧ L - o ≤ 226157759
          · obtain ⟨ht1, ht2⟩ := ht
            have A := rOffset_any z hz (L - o) ht1 ht2
            by_cases hat : z.at (L - o) = o
            · have HTk : Hid (z.above L (o - 1) = z.above L o ++ [L - o]) := by
                have hby : z.by L o = some (L - o) := by unfold Zon.Z.by; rw [if_pos ⟨ht1, ht2, hat⟩]
                have := HS.out
                rw [hby] at this
                exact this
              rw [hat] at A
              clear HS hat
              generalize z.above L o = l at hO HTk hl
              go_wp2_with (first
                | (go_at_call 25; go_must (refine (A _).mono ?_); rintro e w3 ⟨rfl, hg3⟩; have hO3 := hO.kept hg3 (by simp); have hb3 : w1.heap.size ≤ w3.heap.size := by (have := hG.size; have := hg3.size; omega))
                | (refine wpList_append_one rfl (.tmp 57) (.tmp 61) rfl w1.heap.size _ l rfl (hO3.kept (World.grownBy_alloc w3 _ none) (by simp)) w3.heap.size (L - o) rfl (by rw [World.cell?_alloc_new]; rfl) (by omega) (by simp; omega) ?_; intro v4 w4 hO4 hg4))
              go_roundw
              case rel =>
                have hk : ∀ k, u7.ownBlock = some k → w1.heap.size ≤ k := fun k e => (World.ownsRow.lt hO3 k e).1
                exact ⟨o - 1, by omega, by omega, rfl, by rw [HTk.out]; exact hO4, ((hC.kept hg3 (by simp)).kept (World.grownBy_alloc w3 _ none) (by simp)).kept hg4 (fun e => by have := hk _ e.symm; omega), grown_more (grown_alloc (grown_more hG hg3 (by simp)) _) hg4 (fun k e => .inr (hk k e))⟩
              case measure => simp [intOf]; omega
            · have HTk : Hid (z.above L (o - 1) = z.above L o) := by
                have hby : z.by L o = none := by unfold Zon.Z.by; rw [if_neg (fun h => hat h.2.2)]
                have := HS.out
                rw [hby] at this
                exact this.trans (List.append_nil _)
              have hat' : (z.at (L - o) == o) = false := by simpa using hat
              generalize z.at (L - o) = q at A hat'
              clear hat HS
              go_wp2_with (go_at_call 25; go_must (refine (A _).mono ?_); rintro e w3 ⟨rfl, hg3⟩)
              go_roundw
              case rel => exact ⟨o - 1, by omega, by omega, rfl, by rw [HTk.out]; exact hO.kept hg3 (by simp), hC.kept hg3 (by simp), grown_more hG hg3 (by simp)⟩
              case measure => simp [intOf]; omega
          · have HTk : Hid (z.above L (o - 1) = z.above L o) := by
              have hby : z.by L o = none := by unfold Zon.Z.by; rw [if_neg (fun h => ht ⟨h.1, h.2.1⟩)]
              have := HS.out
              rw [hby] at this
              exact this.trans (List.append_nil _)
            have A := rOffset_bad z (L - o) (by omega)
            clear ht HS
            go_wp2_with (go_at_call 25; go_must (refine (A _).mono ?_); rintro e w3 ⟨rfl, hg3⟩)
            go_roundw
            case rel => exact ⟨o - 1, by omega, by omega, rfl, by rw [HTk.out]; exact hO.kept hg3 (by simp), hC.kept hg3 (by simp), grown_more hG hg3 (by simp)⟩
            case measure => simp [intOf]; omega
      · have g1 : (o != z.b) = true := by simp; omega
        have g2 : (o != z.b + z.s) = true := by simp; omega
        have HS : Hid (z.above L (o - 1) = z.above L o) := Zon.above_skip z L o (by omega) (by omega)
        clear hin
        go_wp2_with fail
        go_roundw
        case rel => exact ⟨o - 1, by omega, by omega, rfl, by rw [HS.out]; exact hO, hC, hG⟩
        case measure => simp [intOf]; omega

set_option maxRecDepth 100000 in
set_option maxHeartbeats 800000 in
/-- The same numbers. -/
theorem longs_same {va vb : Value} {l : List Int} {b1 b2 : Nat} (w : World) (ha : OwnI w b1 va l) (hb : OwnI w b2 vb l) (hl : l.length ≤ 100) :
    Calls Tryd.prog 11 #[va, vb] w fun e w' => e = .returned (.bool true) ∧ w.grownBy w' none := by
  obtain ⟨aa, ca, rfl⟩ := ha.len
  obtain ⟨ab, cb, rfl⟩ := hb.len
  have HA : Hid (∀ i, i < l.length → ∃ g, aa = some ⟨g, 0, none⟩ ∧ w.cell? ⟨g, i, none⟩ = some (.int .i64 (l.getD i 0))) := fun i hi => by
    rcases ha.row with ⟨e, _⟩ | ⟨g, cap, e, _, hc⟩
    · rw [e] at hi; simp at hi
    · injection e with e; exact ⟨g, e, hc i hi⟩
  have HB : Hid (∀ i, i < l.length → ∃ g, ab = some ⟨g, 0, none⟩ ∧ w.cell? ⟨g, i, none⟩ = some (.int .i64 (l.getD i 0))) := fun i hi => by
    rcases hb.row with ⟨e, _⟩ | ⟨g, cap, e, _, hc⟩
    · rw [e] at hi; simp at hi
    · injection e with e; exact ⟨g, e, hc i hi⟩
  obtain ⟨n, hn⟩ : ∃ n, n = l.length := ⟨_, rfl⟩
  rw [← hn] at HA HB hl ⊢
  clear ha hb hn
  go_enter Tryd.func11, Tryd.ntmps11
  go_wp2
  go_loopw [5] (fun i wr => ∃ j : Nat, j ≤ n ∧ i = .int .i64 j ∧ w.grownBy wr none) (fun i _ => (200 - intOf i).toNat)
  case atStart => exact ⟨0, by omega, rfl, grown_refl _ _⟩
  case round =>
    obtain ⟨j, hj, rfl, hG⟩ := hrel
    by_cases hjn : j < n
    · obtain ⟨g1, rfl, c1⟩ := HA.out j hjn
      obtain ⟨g2, rfl, c2⟩ := HB.out j hjn
      have d1 := hG.cell c1 (by simp)
      have d2 := hG.cell c2 (by simp)
      generalize l.getD j 0 = x at d1 d2
      clear c1 c2 HA HB
      go_wp2
      go_quiet (fail)
      go_wp2
      go_roundw
      case rel => exact ⟨j + 1, by omega, val_int (by omega), grown_drewN hG _⟩
      case measure => simp [intOf]; omega
    · have g0 : decide ((j : Int) < n) = false := decide_eq_false (by omega)
      go_wp2
      go_ret
      exact ⟨rfl, hG⟩
end Go.Proofs.YtlnafkcoicaefaaDoor
