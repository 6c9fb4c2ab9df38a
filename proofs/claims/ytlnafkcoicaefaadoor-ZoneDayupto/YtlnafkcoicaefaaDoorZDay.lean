/- 'ZoneDay', walked. -/
import Derived.Test.YtlnafkcoicaefaaDoorZDayMath
import Derived.Test.YtlnafkcoicaefaaDoorZBack
namespace Go.Proofs.YtlnafkcoicaefaaDoor
open Go.RowKit
set_option linter.unusedVariables false

set_option maxRecDepth 100000 in
set_option maxHeartbeats 800000 in
theorem day_bad (w : World) (hK : Kn w) (z : Zon.Z) (hz : ¬ z.ok) (n : Int) :
    Calls Tryd.prog 7 #[zon z, .int .i64 n] w fun e w' => e = .returned (.bool true) ∧ Below w.heap.size w w' := by
  have hnot : ∀ (x : Bool) (w : World), (Op.unary .not (.bool x)).run Tryd.prog w = .ok (.bool (!x)) w := fun _ _ => rfl
  have A := fun o => awake_any (w.alloc o) (hK.alloc o)
  have M := make_bad z hz
  clear hz hK
  go_enter Tryd.func7, Tryd.ntmps7
  go_wp2_with (first
    | (go_at_call 8; go_must (refine (A _).mono ?_); rintro e w1 ⟨rfl, hg1⟩; obtain ⟨c0, c1, c2, c3, c4, c5, c6, c7, c8, c9⟩ := c10_new hg1)
    | (go_at_call 9; go_must (refine (M _).mono ?_); rintro e w2 ⟨rfl, hg2⟩))
  go_ret
  exact ⟨rfl, grown_below (grown_more (grown_more (World.grownBy_alloc w _ none) hg1 (by simp)) hg2 (by simp))⟩

set_option maxRecDepth 100000 in
set_option maxHeartbeats 800000 in
theorem day_out (w : World) (hK : Kn w) (z : Zon.Z) (hz : z.ok) (n : Int) (hn : n < 3 ∨ 157050 < n) :
    Calls Tryd.prog 7 #[zon z, .int .i64 n] w fun e w' => e = .returned (.bool true) ∧ Below w.heap.size w w' := by
  have hnot : ∀ (x : Bool) (w : World), (Op.unary .not (.bool x)).run Tryd.prog w = .ok (.bool (!x)) w := fun _ _ => rfl
  have A := fun o => awake_any (w.alloc o) (hK.alloc o)
  have M := make_ok z hz
  clear hz hK
  by_cases h3 : n < 3
  · have g : decide (n < 3) = true := decide_eq_true h3
    clear hn
    go_enter Tryd.func7, Tryd.ntmps7
    go_wp2_with (first
      | (go_at_call 8; go_must (refine (A _).mono ?_); rintro e w1 ⟨rfl, hg1⟩; obtain ⟨c0, c1, c2, c3, c4, c5, c6, c7, c8, c9⟩ := c10_new hg1)
      | (go_at_call 9; go_must (refine (M _).mono ?_); rintro e w2 ⟨b, rfl, hg2, hb1, hb2, hZ⟩))
    go_ret
    exact ⟨rfl, grown_below (grown_more (grown_more (World.grownBy_alloc w _ none) hg1 (by simp)) hg2 (by simp))⟩
  · have g : decide (n < 3) = false := decide_eq_false h3
    have g2 : decide (157050 < n) = true := decide_eq_true (by omega)
    clear hn
    go_enter Tryd.func7, Tryd.ntmps7
    go_wp2_with (first
      | (go_at_call 8; go_must (refine (A _).mono ?_); rintro e w1 ⟨rfl, hg1⟩; obtain ⟨c0, c1, c2, c3, c4, c5, c6, c7, c8, c9⟩ := c10_new hg1)
      | (go_at_call 9; go_must (refine (M _).mono ?_); rintro e w2 ⟨b, rfl, hg2, hb1, hb2, hZ⟩))
    go_ret
    exact ⟨rfl, grown_below (grown_more (grown_more (World.grownBy_alloc w _ none) hg1 (by simp)) hg2 (by simp))⟩

/-- What 'From' tells of a minute, and its 'Instants'. -/
theorem minute (z : Zon.Z) (hz : z.ok) (L : Int) (h1 : 0 ≤ L) (h2 : L ≤ 226157759) : ∃ y m d h n k : Int, Civ.At (L / 1440) y m d ∧
    (∀ w, Calls Tryd.prog 19 #[.int .i64 L] w fun e w' => e = .returned (.tuple #[civ y m d h n k, .int .i64 0]) ∧ w.grownBy w' none) ∧
    ∀ b w, Zn w b z → Calls Tryd.prog 12 #[.pointer (some ⟨b, 0, none⟩), civ y m d h n k] w fun e w' => ∃ v, e = .returned v ∧ OwnI w' w.heap.size v (z.ins L) ∧ Zn w' b z ∧ w.grownBy w' (some b) := by
  obtain ⟨y, m, d, hA⟩ := Civ.At.is (n := L / 1440) (by omega) (by omega)
  have hT : Thr y m d (L % 1440 / 60) (L % 60) := ⟨hA.d1, by rw [hA.dys]; exact hA.d2, by omega, by omega, by omega, by omega⟩
  have hI : inst y m d (L % 1440 / 60) (L % 60) = L := by
    have hn := hA.n
    unfold inst
    omega
  refine ⟨y, m, d, _, _, Civ.wk (L / 1440), hA, from_at hA, fun b w hw => ?_⟩
  have := instants_any b z hz y m d (L % 1440 / 60) (L % 60) (Civ.wk (L / 1440)) hT w hw
  rw [hI] at this
  exact this

/-- Two dates are of one day, or part in the year, the month or the day. -/
theorem dates {n n' y m d y' m' d' : Int} (hA : Civ.At n y m d) (hB : Civ.At n' y' m' d') : (n' = n ∧ y' = y ∧ m' = m ∧ d' = d) ∨ (n' ≠ n ∧ ((y' == y) = false ∨ (y' = y ∧ (m' == m) = false) ∨ (y' = y ∧ m' = m ∧ (d' == d) = false))) := by
  by_cases hn : n' = n
  · subst hn
    obtain ⟨rfl, rfl, rfl⟩ := hA.one hB
    exact .inl ⟨rfl, rfl, rfl, rfl⟩
  · refine .inr ⟨hn, ?_⟩
    by_cases hy : y' = y
    · by_cases hm : m' = m
      · by_cases hd : d' = d
        · subst hy hm hd
          exact absurd (hB.n.trans hA.n.symm) hn
        · exact .inr (.inr ⟨hy, hm, by simpa using hd⟩)
      · exact .inr (.inl ⟨hy, by simpa using hm⟩)
    · exact .inl (by simpa using hy)

theorem tot_le (z : Zon.Z) (N : Int) : ∀ k, z.tot N k ≤ 2 * k
  | 0 => Nat.le_refl _
  | k + 1 => by
    have := tot_le z N k
    have := Zon.ins_len z (N + k)
    unfold Zon.Z.tot
    omega

set_option maxRecDepth 100000 in
set_option maxHeartbeats 6400000 in
theorem day_ok (w : World) (hK : Kn w) (z : Zon.Z) (hz : z.ok) (n : Int) (n1 : 3 ≤ n) (n2 : n ≤ 157050) :
    Calls Tryd.prog 7 #[zon z, .int .i64 n] w fun e w' => e = .returned (.bool true) ∧ Below w.heap.size w w' := by
  have hnot : ∀ (x : Bool) (w : World), (Op.unary .not (.bool x)).run Tryd.prog w = .ok (.bool (!x)) w := fun _ _ => rfl
  have A := fun o => awake_any (w.alloc o) (hK.alloc o)
  have M := make_ok z hz
  have g1 : decide (n < 3) = false := decide_eq_false (by omega)
  have g2 : decide (157050 < n) = false := decide_eq_false (by omega)
  clear hK
  go_enter Tryd.func7, Tryd.ntmps7
  go_wp2_with (first
    | (go_at_call 8; go_must (refine (A _).mono ?_); rintro e w1 ⟨rfl, hg1⟩; obtain ⟨c0, c1, c2, c3, c4, c5, c6, c7, c8, c9⟩ := c10_new hg1)
    | (go_at_call 9; go_must (refine (M _).mono ?_); rintro e w2 ⟨b, rfl, hg2, hb1, hb2, hZ⟩))
  have hs1 := hg1.size
  simp at hs1
  have hwb : w.heap.size < b := by omega
  have G2 := grown_more (grown_more (World.grownBy_alloc w _ none) hg1 (by simp)) hg2 (by simp)
  clear c0 c1 c2 c3 c4 c5 c6 c7 c8 c9 hg1 hg2 hb1 hs1 A M
  go_loopw [7, 8] (fun c i wr => ∃ j : Nat, j ≤ 1440 ∧ i = .int .i64 j ∧ c = .int .i64 (z.tot (n * 1440) j : Nat) ∧ Zn wr b z ∧ w2.grownBy wr (some b)) (fun _ i _ => (2000 - intOf i).toNat)
  case atStart => exact ⟨0, by omega, rfl, rfl, hZ, grown_refl _ _⟩
  case round =>
    clear hZ
    obtain ⟨j, hj, rfl, rfl, hZ, hG⟩ := hrel
    have hlb : b < wr.heap.size := by have := hG.size; omega
    by_cases hjn : j < 1440
    · obtain ⟨y, m, d, hh, nn, kk, _, F, I⟩ := minute z hz (n * 1440 + j) (by omega) (by omega)
      have HT : Hid (z.tot (n * 1440) (j + 1) = z.tot (n * 1440) j + (z.ins (n * 1440 + j)).length) := rfl
      have hl := Zon.ins_len z (n * 1440 + j)
      have hc := tot_le z (n * 1440) j
      generalize z.ins (n * 1440 + j) = l at I HT hl
      generalize z.tot (n * 1440) j = q at HT hc
      go_wp2_with (first
        | (go_at_call 19; go_must (refine (F _).mono ?_); rintro e w3 ⟨rfl, hg3⟩; have hZ3 := (hZ.kept hg3).kept (World.grownBy_alloc w3 (.cells #[.int .i64 y, .int .i64 m, .int .i64 d, .int .i64 hh, .int .i64 nn, .int .i64 kk] 37) none))
        | (go_at_call 12; go_must (refine (I b _ hZ3).mono ?_); rintro e w4 ⟨v, rfl, hO, hZ4, hg4⟩; obtain ⟨av, ac, rfl⟩ := hO.len))
      go_roundw
      case rel => exact ⟨j + 1, by omega, val_int (by omega), val_int (by rw [HT.out]; omega), hZ4, grown_more (grown_alloc (grown_more hG hg3 (by simp)) _) hg4 (by simp)⟩
      case measure => simp [intOf]; omega
    · obtain rfl : j = 1440 := by omega
      have hq := Zon.tot_day hz (N := n * 1440) (by omega) (by omega)
      have hq2 := tot_le z (n * 1440) 1440
      generalize z.tot (n * 1440) 1440 = q at hq hq2
      have HQ : Hid (q = Zon.cnt (z.inDay (n * 1440)) (n * 1440 - 1000) 3500) := hq
      clear hq
      obtain ⟨y, m, d, hh, nn, kk, hA, F, _⟩ := minute z hz (n * 1440) (by omega) (by omega)
      rw [show n * 1440 / 1440 = n by omega] at hA
      go_wp2_with (go_at_call 19; go_must (refine (F _).mono ?_); rintro e w5 ⟨rfl, hg5⟩)
      have hG5 := grown_alloc (grown_more hG hg5 (by simp)) (.cells #[.int .i64 y, .int .i64 m, .int .i64 d, .int .i64 hh, .int .i64 nn, .int .i64 kk] 37)
      have hZ5 := (hZ.kept hg5).kept (World.grownBy_alloc w5 (.cells #[.int .i64 y, .int .i64 m, .int .i64 d, .int .i64 hh, .int .i64 nn, .int .i64 kk] 37) none)
      have hs5 := hg5.size
      have CC : Hid (∀ wx, (w5.alloc (.cells #[.int .i64 y, .int .i64 m, .int .i64 d, .int .i64 hh, .int .i64 nn, .int .i64 kk] 37)).grownBy wx (some b) → C6 wx w5.heap.size y m d hh nn kk) := fun wx hx => ⟨cell_kept_b hx (by omega) 0 _ rfl, cell_kept_b hx (by omega) 1 _ rfl, cell_kept_b hx (by omega) 2 _ rfl, cell_kept_b hx (by omega) 3 _ rfl, cell_kept_b hx (by omega) 4 _ rfl, cell_kept_b hx (by omega) 5 _ rfl⟩
      have GF : w.grownBy (w5.alloc (.cells #[.int .i64 y, .int .i64 m, .int .i64 d, .int .i64 hh, .int .i64 nn, .int .i64 kk] 37)) none := below_new G2 (b := b) (by omega) hG5
      obtain ⟨B5, hB5⟩ : ∃ B5, B5 = w5.heap.size := ⟨_, rfl⟩
      rw [← hB5] at CC ⊢
      generalize (w5.alloc (.cells #[.int .i64 y, .int .i64 m, .int .i64 d, .int .i64 hh, .int .i64 nn, .int .i64 kk] 37)) = w6 at CC GF hZ5 ⊢
      clear hB5 F hG hZ hg5 hs5 hG5
      go_loopw [7, 13, 14, 15] (fun c f la t wr => ∃ (i : Nat) (a e' : Int), i ≤ 3500 ∧ t = .int .i64 (n * 1440 - 1000 + i) ∧ c = .int .i64 ((q : Int) - (Zon.cnt (z.inDay (n * 1440)) (n * 1440 - 1000) i : Nat)) ∧ f = .int .i64 a ∧ la = .int .i64 e' ∧ ((a = -1 ∧ e' = -1) ∨ (0 ≤ a ∧ a ≤ e' ∧ e' ≤ n * 1440 - 1000 + i)) ∧ Zn wr b z ∧ w6.grownBy wr (some b)) (fun _ _ _ t _ => (n * 1440 + 5000 - intOf t).toNat)
      case atStart => exact ⟨0, -1, -1, by omega, val_int (by omega), val_int (by simp [Zon.cnt]), rfl, rfl, by omega, hZ5, grown_refl _ _⟩
      case round =>
        clear hZ5
        obtain ⟨i, a, e', hi, rfl, rfl, rfl, rfl, hae, hZ, hG6⟩ := hrel
        have hcl := Zon.cnt_le (z.inDay (n * 1440)) (n * 1440 - 1000) i
        by_cases hin : i < 3500
        · have hbd := Zon.at_bd hz (n * 1440 - 1000 + i)
          obtain ⟨y', m', d', hB⟩ := Civ.At.is (n := (n * 1440 - 1000 + i + z.at (n * 1440 - 1000 + i)) / 1440) (by omega) (by omega)
          have LB := local_by b z hz (n * 1440 - 1000 + i) (by omega) (by omega) y' m' d' _ _ _ 0 (from_at hB) wr hZ
          have hD := dates hA hB
          have HC : Hid (Zon.cnt (z.inDay (n * 1440)) (n * 1440 - 1000) (i + 1) = Zon.cnt (z.inDay (n * 1440)) (n * 1440 - 1000) i + (if z.inDay (n * 1440) (n * 1440 - 1000 + i) then 1 else 0)) := rfl
          have HD : Hid (z.inDay (n * 1440) (n * 1440 - 1000 + i) = decide ((n * 1440 - 1000 + i + z.at (n * 1440 - 1000 + i)) / 1440 = n)) := by
            show z.inDay _ _ = _
            unfold Zon.Z.inDay
            rw [← Bool.decide_and]
            exact decide_eq_decide.mpr (by omega)
          generalize Zon.cnt (z.inDay (n * 1440)) (n * 1440 - 1000) i = cc at HC hcl ⊢
          generalize (n * 1440 - 1000 + i + z.at (n * 1440 - 1000 + i)) % 1440 / 60 = h7 at LB
          generalize (n * 1440 - 1000 + i + z.at (n * 1440 - 1000 + i)) % 60 = n7 at LB
          generalize Civ.wk ((n * 1440 - 1000 + i + z.at (n * 1440 - 1000 + i)) / 1440) = k7 at LB
          generalize (n * 1440 - 1000 + i + z.at (n * 1440 - 1000 + i)) / 1440 = n8 at hD HD hB
          have hy0 := hA.y1
          have hy9 := hA.y2
          rcases hD with ⟨hn, rfl, rfl, rfl⟩ | ⟨hn, hD⟩
          · rw [HD.out, decide_eq_true hn, if_pos rfl] at HC
            clear HD hn hB hbd
            rcases hae with ⟨rfl, rfl⟩ | ⟨ha1, ha2, ha3⟩
            · skip
              go_wp2_with (go_at_call 14; go_must (refine LB.mono ?_); rintro e w7 ⟨rfl, s7, hR7, hg7⟩; obtain ⟨k0, k1, k2, k3, k4, k5⟩ := CC.out _ (grown_more hG6 hg7 (by simp)); have l0 := cell_alloc k0; have l1 := cell_alloc k1; have l2 := cell_alloc k2)
              go_roundw
              case rel => exact ⟨i + 1, n * 1440 - 1000 + i, n * 1440 - 1000 + i, by omega, val_int (by omega), val_int (by rw [HC.out]; omega), rfl, rfl, by omega, hR7.zn.kept (World.grownBy_alloc w7 _ none), grown_alloc (grown_more hG6 hg7 (by simp)) _⟩
              case measure => simp [intOf]; omega
            · have ga : decide (a < 0) = false := decide_eq_false (by omega)
              go_wp2_with (go_at_call 14; go_must (refine LB.mono ?_); rintro e w7 ⟨rfl, s7, hR7, hg7⟩; obtain ⟨k0, k1, k2, k3, k4, k5⟩ := CC.out _ (grown_more hG6 hg7 (by simp)); have l0 := cell_alloc k0; have l1 := cell_alloc k1; have l2 := cell_alloc k2)
              go_roundw
              case rel => exact ⟨i + 1, a, n * 1440 - 1000 + i, by omega, val_int (by omega), val_int (by rw [HC.out]; omega), rfl, rfl, by omega, hR7.zn.kept (World.grownBy_alloc w7 _ none), grown_alloc (grown_more hG6 hg7 (by simp)) _⟩
              case measure => simp [intOf]; omega
          · rw [HD.out, decide_eq_false hn, if_neg (by simp)] at HC
            clear HD hn hB hbd
            rcases hD with g3 | ⟨rfl, g3⟩ | ⟨rfl, rfl, g3⟩
            · skip
              go_wp2_with (go_at_call 14; go_must (refine LB.mono ?_); rintro e w7 ⟨rfl, s7, hR7, hg7⟩; obtain ⟨k0, k1, k2, k3, k4, k5⟩ := CC.out _ (grown_more hG6 hg7 (by simp)); have l0 := cell_alloc k0; have l1 := cell_alloc k1; have l2 := cell_alloc k2)
              go_roundw
              case rel => exact ⟨i + 1, a, e', by omega, val_int (by omega), val_int (by rw [HC.out]; omega), rfl, rfl, by omega, hR7.zn.kept (World.grownBy_alloc w7 _ none), grown_alloc (grown_more hG6 hg7 (by simp)) _⟩
              case measure => simp [intOf]; omega
            · skip
              go_wp2_with (go_at_call 14; go_must (refine LB.mono ?_); rintro e w7 ⟨rfl, s7, hR7, hg7⟩; obtain ⟨k0, k1, k2, k3, k4, k5⟩ := CC.out _ (grown_more hG6 hg7 (by simp)); have l0 := cell_alloc k0; have l1 := cell_alloc k1; have l2 := cell_alloc k2)
              go_roundw
              case rel => exact ⟨i + 1, a, e', by omega, val_int (by omega), val_int (by rw [HC.out]; omega), rfl, rfl, by omega, hR7.zn.kept (World.grownBy_alloc w7 _ none), grown_alloc (grown_more hG6 hg7 (by simp)) _⟩
              case measure => simp [intOf]; omega
            · skip
              go_wp2_with (go_at_call 14; go_must (refine LB.mono ?_); rintro e w7 ⟨rfl, s7, hR7, hg7⟩; obtain ⟨k0, k1, k2, k3, k4, k5⟩ := CC.out _ (grown_more hG6 hg7 (by simp)); have l0 := cell_alloc k0; have l1 := cell_alloc k1; have l2 := cell_alloc k2)
              go_roundw
              case rel => exact ⟨i + 1, a, e', by omega, val_int (by omega), val_int (by rw [HC.out]; omega), rfl, rfl, by omega, hR7.zn.kept (World.grownBy_alloc w7 _ none), grown_alloc (grown_more hG6 hg7 (by simp)) _⟩
              case measure => simp [intOf]; omega
        · obtain rfl : i = 3500 := by omega
          rw [← HQ.out]
          have g4 : decide (n * 1440 - 1000 + 3500 < n * 1440 + 2500) = false := decide_eq_false (by omega)
          go_wp2_with fail
          go_ret
          exact ⟨ret_bool (by simp; omega), grown_below (below_new GF (b := b) (by omega) hG6)⟩

/-- For every zone's rules and every day 'ZoneDay' answers true. -/
theorem zoneDay.walk (w : World) (hK : Kn w) (v : Value) (hv : ∃ z, v = zon z) (n : Int) (_ : (Lit.int .i64 n).wf = true) :
    Calls Tryd.prog 7 #[v, .int .i64 n] w fun e w' => e = .returned (.bool true) ∧ Below w.heap.size w w' := by
  obtain ⟨z, rfl⟩ := hv
  by_cases hz : z.ok
  · by_cases hn : 3 ≤ n ∧ n ≤ 157050
    · exact day_ok w hK z hz n hn.1 hn.2
    · exact day_out w hK z hz n (by omega)
  · exact day_bad w hK z hz n
end Go.Proofs.YtlnafkcoicaefaaDoor
