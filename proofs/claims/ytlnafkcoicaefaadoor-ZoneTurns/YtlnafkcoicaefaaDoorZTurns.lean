/- 'ZoneTurns', walked. -/
import Derived.Test.YtlnafkcoicaefaaDoorZBack
namespace Go.Proofs.YtlnafkcoicaefaaDoor
open Go.RowKit
set_option linter.unusedVariables false

set_option maxRecDepth 100000 in
set_option maxHeartbeats 800000 in
theorem turns_bad (w : World) (hK : Kn w) (z : Zon.Z) (hz : ¬ z.ok) (t : Int) (a : Option Addr) (n c : Nat) :
    Calls Tryd.prog 6 #[zon z, .int .i64 t, .slice a n c] w fun e w' => e = .returned (.bool true) ∧ Below w.heap.size w w' := by
  have hnot : ∀ (x : Bool) (w : World), (Op.unary .not (.bool x)).run Tryd.prog w = .ok (.bool (!x)) w := fun _ _ => rfl
  have A := fun o => awake_any (w.alloc o) (hK.alloc o)
  have M := make_bad z hz
  clear hz hK
  go_enter Tryd.func6, Tryd.ntmps6
  go_wp2_with (first
    | (go_at_call 8; go_must (refine (A _).mono ?_); rintro e w1 ⟨rfl, hg1⟩; obtain ⟨c0, c1, c2, c3, c4, c5, c6, c7, c8, c9⟩ := c10_new hg1)
    | (go_at_call 9; go_must (refine (M _).mono ?_); rintro e w2 ⟨rfl, hg2⟩))
  go_ret
  exact ⟨rfl, grown_below (grown_more (grown_more (World.grownBy_alloc w _ none) hg1 (by simp)) hg2 (by simp))⟩

set_option maxRecDepth 100000 in
set_option maxHeartbeats 800000 in
theorem turns_time (w : World) (hK : Kn w) (z : Zon.Z) (hz : z.ok) (t : Int) (ht : t < 0 ∨ 226157759 < t) (a : Option Addr) (n c : Nat) :
    Calls Tryd.prog 6 #[zon z, .int .i64 t, .slice a n c] w fun e w' => e = .returned (.bool true) ∧ Below w.heap.size w w' := by
  have hnot : ∀ (x : Bool) (w : World), (Op.unary .not (.bool x)).run Tryd.prog w = .ok (.bool (!x)) w := fun _ _ => rfl
  have A := fun o => awake_any (w.alloc o) (hK.alloc o)
  have M := make_ok z hz
  have OB := fun b => offset_bad b t ht
  have TB := fun b => turn_bad b t ht
  clear hz hK ht
  go_enter Tryd.func6, Tryd.ntmps6
  go_wp2_with (first
    | (go_at_call 8; go_must (refine (A _).mono ?_); rintro e w1 ⟨rfl, hg1⟩; obtain ⟨c0, c1, c2, c3, c4, c5, c6, c7, c8, c9⟩ := c10_new hg1)
    | (go_at_call 9; go_must (refine (M _).mono ?_); rintro e w2 ⟨b, rfl, hg2, hb1, hb2, hZ⟩)
    | (go_at_call 17; go_must (refine (OB b _).mono ?_); rintro e w3 ⟨rfl, rfl⟩)
    | (go_at_call 18; go_must (refine (TB b _).mono ?_); rintro e w4 ⟨rfl, rfl⟩))
  go_ret
  exact ⟨rfl, grown_below (grown_more (grown_more (World.grownBy_alloc w _ none) hg1 (by simp)) hg2 (by simp))⟩

/-- The law's numbers: x, or the same mirrored, modulo the way to the turn. -/
theorem look_bd {t T x : Int} (h : t < T) (hx : 0 ≤ x) : t ≤ t + x % (T - t) ∧ t + x % (T - t) < T := by
  have h1 := Int.emod_nonneg x (show T - t ≠ 0 by omega)
  have h2 := Int.emod_lt_of_pos x (show 0 < T - t by omega)
  omega

set_option maxRecDepth 100000 in
set_option maxHeartbeats 3200000 in
theorem turns_ok (w : World) (hK : Kn w) (z : Zon.Z) (hz : z.ok) (t : Int) (t1 : 0 ≤ t) (t2 : t ≤ 226157759) (a : Option Addr) (n c : Nat) (hS : Si w a n) (hn : n ≤ 9223372036854775807) :
    Calls Tryd.prog 6 #[zon z, .int .i64 t, .slice a n c] w fun e w' => e = .returned (.bool true) ∧ Below w.heap.size w w' := by
  have hnot : ∀ (x : Bool) (w : World), (Op.unary .not (.bool x)).run Tryd.prog w = .ok (.bool (!x)) w := fun _ _ => rfl
  have A := fun o => awake_any (w.alloc o) (hK.alloc o)
  have M := make_ok z hz
  have OA := fun b w hw => offset_any b z hz t t1 t2 w hw
  have TA := fun b w hw => turn_any b z hz t t1 t2 w hw
  have hT1 := Zon.turn_gt hz t2
  have hT2 := Zon.turn_le hz t
  have HST : Hid (∀ x, t ≤ x → x < z.turn t → z.at x = z.at t) := fun x h1 h2 => Zon.at_stays hz h1 h2
  have HOX : Hid (∀ x, 0 ≤ x → x ≤ 226157759 → ∀ b w, Zn w b z → Calls Tryd.prog 17 #[.pointer (some ⟨b, 0, none⟩), .int .i64 x] w fun e w' => e = .returned (.tuple #[.int .i64 (z.at x), .int .i64 0]) ∧ ∃ s, Rdy w' b z s ∧ w.grownBy w' (some b)) := fun x h1 h2 b w hw => offset_any b z hz x h1 h2 w hw
  have HTU : Hid (z.turn t ≠ 226157760 → z.at (z.turn t) ≠ z.at t) := Zon.at_turns hz
  have htwo := Zon.at_two z t
  have hbd := Zon.at_bd hz t
  have hb1 := hz.1
  have hb2 := hz.2.1
  have hs1 := hz.2.2.1
  have hs2 := hz.2.2.2.1
  obtain ⟨o, ho⟩ : ∃ o, o = z.at t := ⟨_, rfl⟩
  rw [← ho] at htwo hbd HTU
  simp only [← ho] at OA HST
  obtain ⟨T, hT⟩ : ∃ T, T = z.turn t := ⟨_, rfl⟩
  rw [← hT] at hT1 hT2 HTU
  simp only [← hT] at TA HST
  clear ho hT
  have g1 : decide (T ≤ t) = false := decide_eq_false (by omega)
  have g2 : decide (226157760 < T) = false := decide_eq_false (by omega)
  have HTW : Hid (o = z.b + z.s ∨ o = z.b) := htwo
  clear htwo hK
  by_cases hcase : o = z.b
  · have g3 : (o != z.b) = false := by simp [hcase]
    clear hcase HTW
    go_enter Tryd.func6, Tryd.ntmps6
    go_wp2_with (first
      | (go_at_call 8; go_must (refine (A _).mono ?_); rintro e w1 ⟨rfl, hg1⟩; obtain ⟨c0, c1, c2, c3, c4, c5, c6, c7, c8, c9⟩ := c10_new hg1)
      | (go_at_call 9; go_must (refine (M _).mono ?_); rintro e w2 ⟨b, rfl, hg2, hb1', hb2', hZ⟩; have hs1' := hg1.size; simp at hs1'; have hwb : w.heap.size < b := by omega)
      | (go_at_call 17; go_must (refine (OA b _ hZ).mono ?_); rintro e w3 ⟨rfl, s3, hR3, hg3⟩)
      | (go_at_call 18; go_must (refine (TA b _ hR3.zn).mono ?_); rintro e w4 ⟨rfl, s4, hR4, hg4⟩; have c0 := hg4.cell (hg3.cell (hg2.cell c0 (by simp)) (by simp; omega)) (by simp; omega); have c1 := hg4.cell (hg3.cell (hg2.cell c1 (by simp)) (by simp; omega)) (by simp; omega)))
    have G4 : w.grownBy w4 none := below_new (below_new (grown_more (grown_more (World.grownBy_alloc w _ none) hg1 (by simp)) hg2 (by simp)) (b := b) (by omega) hg3) (b := b) (by omega) hg4
    clear c0 c1 c2 c3 c4 c5 c6 c7 c8 c9 A M OA TA hg1 hg2 hg3 hg4 hb1' hb2' hs1' hZ hR3
    have hZ4 := hR4.zn
    clear hR4
    go_loopw [13] (fun i wr => ∃ j : Nat, j ≤ n ∧ j ≤ 64 ∧ i = .int .i64 j ∧ Zn wr b z ∧ w4.grownBy wr (some b)) (fun i _ => (100 - intOf i).toNat)
    case atStart => exact ⟨0, by omega, by omega, rfl, hZ4, grown_refl _ _⟩
    case round =>
      clear hZ4
      obtain ⟨j, hj, hj64, rfl, hZ, hG⟩ := hrel
      by_cases hgo : j < n ∧ j < 64
      · obtain ⟨hjn, hj6⟩ := hgo
        obtain ⟨q, off, x, rfl, cx, hx1, hx2⟩ := (hS.kept (below_new G4 (b := b) (by omega) hG)) j hjn
        clear hS
        by_cases hneg : x < 0
        · have hy := look_bd (t := t) (T := T) (x := 0 - (x + 1)) hT1 (by omega)
          have O := HOX.out (t + (0 - (x + 1)) % (T - t)) (by omega) (by omega) b _ hZ
          rw [HST.out _ hy.1 hy.2] at O
          have hm : (x + 1).tmod (T - t) = -((0 - (x + 1)) % (T - t)) := by
            have h := Int.tmod_eq_emod_of_nonneg (a := 0 - (x + 1)) (b := T - t) (by omega)
            rw [show 0 - (x + 1) = -(x + 1) by omega, Int.neg_tmod] at h
            rw [show 0 - (x + 1) = -(x + 1) by omega]
            omega
          generalize hr : (0 - (x + 1)) % (T - t) = r at O hy hm
          obtain ⟨hy1, hy2⟩ := hy
          clear hr
          have hrr : 0 ≤ r := by omega
          go_wp2_with (go_at_call 17; go_must (refine O.mono ?_); rintro e w5 ⟨rfl, s5, hR5, hg5⟩)
          go_roundw
          case rel => exact ⟨j + 1, by omega, by omega, val_int (by omega), hR5.zn, grown_more hG hg5 (by simp)⟩
          case measure => simp [intOf]; omega
        · have hy := look_bd (t := t) (T := T) (x := x) hT1 (by omega)
          have O := HOX.out (t + x % (T - t)) (by omega) (by omega) b _ hZ
          rw [HST.out _ hy.1 hy.2] at O
          have hm : x.tmod (T - t) = x % (T - t) := Int.tmod_eq_emod_of_nonneg (by omega)
          generalize hr : x % (T - t) = r at O hy hm
          obtain ⟨hy1, hy2⟩ := hy
          clear hr
          have hrr : 0 ≤ r := by omega
          go_wp2_with (go_at_call 17; go_must (refine O.mono ?_); rintro e w5 ⟨rfl, s5, hR5, hg5⟩)
          go_roundw
          case rel => exact ⟨j + 1, by omega, by omega, val_int (by omega), hR5.zn, grown_more hG hg5 (by simp)⟩
          case measure => simp [intOf]; omega
      · have GF := below_new G4 (b := b) (by omega) hG
        clear hS
        by_cases hT3 : T = 226157760
        · have OB := offset_bad b T (by omega)
          subst hT3
          by_cases hjn : j < n
          · have g6 : decide ((j : Int) < 64) = false := decide_eq_false (by omega)
            go_wp2_with (go_at_call 17; go_must (refine (OB _).mono ?_); rintro e w5 ⟨rfl, rfl⟩)
            go_ret
            exact ⟨rfl, grown_below GF⟩
          · have g6 : decide ((j : Int) < n) = false := decide_eq_false (by omega)
            go_wp2_with (go_at_call 17; go_must (refine (OB _).mono ?_); rintro e w5 ⟨rfl, rfl⟩)
            go_ret
            exact ⟨rfl, grown_below GF⟩
        · have OT := HOX.out T (by omega) (by omega) b _ hZ
          have hne := HTU.out hT3
          have g7 : (T == 226157760) = false := by simpa using hT3
          generalize z.at T = oT at OT hne
          have g8 : (oT != o) = true := by simpa using hne
          clear hT3 hne
          by_cases hjn : j < n
          · have g6 : decide ((j : Int) < 64) = false := decide_eq_false (by omega)
            go_wp2_with (go_at_call 17; go_must (refine OT.mono ?_); rintro e w5 ⟨rfl, s5, hR5, hg5⟩)
            go_ret
            exact ⟨rfl, grown_below (below_new GF (b := b) (by omega) hg5)⟩
          · have g6 : decide ((j : Int) < n) = false := decide_eq_false (by omega)
            go_wp2_with (go_at_call 17; go_must (refine OT.mono ?_); rintro e w5 ⟨rfl, s5, hR5, hg5⟩)
            go_ret
            exact ⟨rfl, grown_below (below_new GF (b := b) (by omega) hg5)⟩
  · have g3 : (o != z.b) = true := by simpa using hcase
    have g4 : (o != z.b + z.s) = false := by
      have := HTW.out
      simp
      omega
    clear hcase HTW
    go_enter Tryd.func6, Tryd.ntmps6
    go_wp2_with (first
      | (go_at_call 8; go_must (refine (A _).mono ?_); rintro e w1 ⟨rfl, hg1⟩; obtain ⟨c0, c1, c2, c3, c4, c5, c6, c7, c8, c9⟩ := c10_new hg1)
      | (go_at_call 9; go_must (refine (M _).mono ?_); rintro e w2 ⟨b, rfl, hg2, hb1', hb2', hZ⟩; have hs1' := hg1.size; simp at hs1'; have hwb : w.heap.size < b := by omega)
      | (go_at_call 17; go_must (refine (OA b _ hZ).mono ?_); rintro e w3 ⟨rfl, s3, hR3, hg3⟩)
      | (go_at_call 18; go_must (refine (TA b _ hR3.zn).mono ?_); rintro e w4 ⟨rfl, s4, hR4, hg4⟩; have c0 := hg4.cell (hg3.cell (hg2.cell c0 (by simp)) (by simp; omega)) (by simp; omega); have c1 := hg4.cell (hg3.cell (hg2.cell c1 (by simp)) (by simp; omega)) (by simp; omega)))
    have G4 : w.grownBy w4 none := below_new (below_new (grown_more (grown_more (World.grownBy_alloc w _ none) hg1 (by simp)) hg2 (by simp)) (b := b) (by omega) hg3) (b := b) (by omega) hg4
    clear c0 c1 c2 c3 c4 c5 c6 c7 c8 c9 A M OA TA hg1 hg2 hg3 hg4 hb1' hb2' hs1' hZ hR3
    have hZ4 := hR4.zn
    clear hR4
    go_loopw [13] (fun i wr => ∃ j : Nat, j ≤ n ∧ j ≤ 64 ∧ i = .int .i64 j ∧ Zn wr b z ∧ w4.grownBy wr (some b)) (fun i _ => (100 - intOf i).toNat)
    case atStart => exact ⟨0, by omega, by omega, rfl, hZ4, grown_refl _ _⟩
    case round =>
      clear hZ4
      obtain ⟨j, hj, hj64, rfl, hZ, hG⟩ := hrel
      by_cases hgo : j < n ∧ j < 64
      · obtain ⟨hjn, hj6⟩ := hgo
        obtain ⟨q, off, x, rfl, cx, hx1, hx2⟩ := (hS.kept (below_new G4 (b := b) (by omega) hG)) j hjn
        clear hS
        by_cases hneg : x < 0
        · have hy := look_bd (t := t) (T := T) (x := 0 - (x + 1)) hT1 (by omega)
          have O := HOX.out (t + (0 - (x + 1)) % (T - t)) (by omega) (by omega) b _ hZ
          rw [HST.out _ hy.1 hy.2] at O
          have hm : (x + 1).tmod (T - t) = -((0 - (x + 1)) % (T - t)) := by
            have h := Int.tmod_eq_emod_of_nonneg (a := 0 - (x + 1)) (b := T - t) (by omega)
            rw [show 0 - (x + 1) = -(x + 1) by omega, Int.neg_tmod] at h
            rw [show 0 - (x + 1) = -(x + 1) by omega]
            omega
          generalize hr : (0 - (x + 1)) % (T - t) = r at O hy hm
          obtain ⟨hy1, hy2⟩ := hy
          clear hr
          have hrr : 0 ≤ r := by omega
          go_wp2_with (go_at_call 17; go_must (refine O.mono ?_); rintro e w5 ⟨rfl, s5, hR5, hg5⟩)
          go_roundw
          case rel => exact ⟨j + 1, by omega, by omega, val_int (by omega), hR5.zn, grown_more hG hg5 (by simp)⟩
          case measure => simp [intOf]; omega
        · have hy := look_bd (t := t) (T := T) (x := x) hT1 (by omega)
          have O := HOX.out (t + x % (T - t)) (by omega) (by omega) b _ hZ
          rw [HST.out _ hy.1 hy.2] at O
          have hm : x.tmod (T - t) = x % (T - t) := Int.tmod_eq_emod_of_nonneg (by omega)
          generalize hr : x % (T - t) = r at O hy hm
          obtain ⟨hy1, hy2⟩ := hy
          clear hr
          have hrr : 0 ≤ r := by omega
          go_wp2_with (go_at_call 17; go_must (refine O.mono ?_); rintro e w5 ⟨rfl, s5, hR5, hg5⟩)
          go_roundw
          case rel => exact ⟨j + 1, by omega, by omega, val_int (by omega), hR5.zn, grown_more hG hg5 (by simp)⟩
          case measure => simp [intOf]; omega
      · have GF := below_new G4 (b := b) (by omega) hG
        clear hS
        by_cases hT3 : T = 226157760
        · have OB := offset_bad b T (by omega)
          subst hT3
          by_cases hjn : j < n
          · have g6 : decide ((j : Int) < 64) = false := decide_eq_false (by omega)
            go_wp2_with (go_at_call 17; go_must (refine (OB _).mono ?_); rintro e w5 ⟨rfl, rfl⟩)
            go_ret
            exact ⟨rfl, grown_below GF⟩
          · have g6 : decide ((j : Int) < n) = false := decide_eq_false (by omega)
            go_wp2_with (go_at_call 17; go_must (refine (OB _).mono ?_); rintro e w5 ⟨rfl, rfl⟩)
            go_ret
            exact ⟨rfl, grown_below GF⟩
        · have OT := HOX.out T (by omega) (by omega) b _ hZ
          have hne := HTU.out hT3
          have g7 : (T == 226157760) = false := by simpa using hT3
          generalize z.at T = oT at OT hne
          have g8 : (oT != o) = true := by simpa using hne
          clear hT3 hne
          by_cases hjn : j < n
          · have g6 : decide ((j : Int) < 64) = false := decide_eq_false (by omega)
            go_wp2_with (go_at_call 17; go_must (refine OT.mono ?_); rintro e w5 ⟨rfl, s5, hR5, hg5⟩)
            go_ret
            exact ⟨rfl, grown_below (below_new GF (b := b) (by omega) hg5)⟩
          · have g6 : decide ((j : Int) < n) = false := decide_eq_false (by omega)
            go_wp2_with (go_at_call 17; go_must (refine OT.mono ?_); rintro e w5 ⟨rfl, s5, hR5, hg5⟩)
            go_ret
            exact ⟨rfl, grown_below (below_new GF (b := b) (by omega) hg5)⟩

/-- For every zone's rules, every number and all looks 'ZoneTurns' answers true. -/
theorem zoneTurns.walk (w : World) (hK : Kn w) (v : Value) (hv : ∃ z, v = zon z) (t : Int) (_ : (Lit.int .i64 t).wf = true) (l : Value) (hl : ∃ a n c, l = .slice a n c ∧ Si w a n ∧ n ≤ 9223372036854775807) :
    Calls Tryd.prog 6 #[v, .int .i64 t, l] w fun e w' => e = .returned (.bool true) ∧ Below w.heap.size w w' := by
  obtain ⟨z, rfl⟩ := hv
  obtain ⟨a, n, c, rfl, hS, hn⟩ := hl
  by_cases hz : z.ok
  · by_cases ht : 0 ≤ t ∧ t ≤ 226157759
    · exact turns_ok w hK z hz t ht.1 ht.2 a n c hS hn
    · exact turns_time w hK z hz t (by omega) a n c
  · exact turns_bad w hK z hz t a n c
end Go.Proofs.YtlnafkcoicaefaaDoor
