/- What the document's own 'From' answers. -/
import Derived.Test.YtlnafkcoicaefaaDoorVRef
namespace Go.Proofs.YtlnafkcoicaefaaDoor
open Go.RowKit

/-- A minute by the calendar that lies in the block b, free to be written. -/
structure CivAt (w : World) (b : Nat) (y m d h n k : Int) : Prop where
  c0 : w.cell? ⟨b, 0, none⟩ = some (.int .i64 y)
  c1 : w.cell? ⟨b, 1, none⟩ = some (.int .i64 m)
  c2 : w.cell? ⟨b, 2, none⟩ = some (.int .i64 d)
  c3 : w.cell? ⟨b, 3, none⟩ = some (.int .i64 h)
  c4 : w.cell? ⟨b, 4, none⟩ = some (.int .i64 n)
  c5 : w.cell? ⟨b, 5, none⟩ = some (.int .i64 k)
  free : ∀ i, w.frozen? ⟨b, i, none⟩ = false
  lt : b < w.heap.size
theorem CivAt.new (w : World) (y m d h n k : Int) (t : TypeId) : CivAt (w.alloc (.cells #[.int .i64 y, .int .i64 m, .int .i64 d, .int .i64 h, .int .i64 n, .int .i64 k] t)) w.heap.size y m d h n k :=
  ⟨by simp, by simp, by simp, by simp, by simp, by simp, fun i => by simp, by simp⟩
theorem CivAt.kept {w w' : World} {b : Nat} {y m d h n k : Int} (c : CivAt w b y m d h n k) (g : w.grownBy w' none) : CivAt w' b y m d h n k :=
  ⟨g.cell c.c0 (by simp), g.cell c.c1 (by simp), g.cell c.c2 (by simp), g.cell c.c3 (by simp), g.cell c.c4 (by simp), g.cell c.c5 (by simp),
    fun i => by rw [World.frozen?_of_block (w := w) (g.block b c.lt (by simp))]; exact c.free i, Nat.lt_of_lt_of_le c.lt g.size⟩
theorem CivAt.other {w : World} {b b' i : Nat} {y m d h n k : Int} {v : Value} (c : CivAt w b y m d h n k) (hb : b ≠ b') : CivAt (w.setCell ⟨b', i, none⟩ v) b y m d h n k := by
  have e : ∀ j, (⟨b', i, none⟩ : Addr) ≠ ⟨b, j, none⟩ := fun j he => hb (by injection he with h1 _ _; exact h1.symm)
  refine ⟨?_, ?_, ?_, ?_, ?_, ?_, fun j => by rw [World.frozen?_setCell]; exact c.free j, by simp only [World.setCell, Array.size_modify]; exact c.lt⟩
  all_goals rw [World.cell?_setCell_other _ _ _ _ (e _)]
  · exact c.c0
  · exact c.c1
  · exact c.c2
  · exact c.c3
  · exact c.c4
  · exact c.c5
theorem CivAt.set0 {w : World} {b : Nat} {y m d h n k : Int} (c : CivAt w b y m d h n k) (y' : Int) : CivAt (w.setCell ⟨b, 0, none⟩ (.int .i64 y')) b y' m d h n k := by
  have e : ∀ j, j ≠ 0 → (⟨b, 0, none⟩ : Addr) ≠ ⟨b, j, none⟩ := fun j hj he => hj (by injection he with _ h1 _; exact h1.symm)
  refine ⟨World.cell?_setCell_same _ _ _ c.c0, ?_, ?_, ?_, ?_, ?_, fun j => by rw [World.frozen?_setCell]; exact c.free j, by simp only [World.setCell, Array.size_modify]; exact c.lt⟩
  all_goals rw [World.cell?_setCell_other _ _ _ _ (e _ (by decide))]
  · exact c.c1
  · exact c.c2
  · exact c.c3
  · exact c.c4
  · exact c.c5
theorem CivAt.set1 {w : World} {b : Nat} {y m d h n k : Int} (c : CivAt w b y m d h n k) (m' : Int) : CivAt (w.setCell ⟨b, 1, none⟩ (.int .i64 m')) b y m' d h n k := by
  have e : ∀ j, j ≠ 1 → (⟨b, 1, none⟩ : Addr) ≠ ⟨b, j, none⟩ := fun j hj he => hj (by injection he with _ h1 _; exact h1.symm)
  refine ⟨?_, World.cell?_setCell_same _ _ _ c.c1, ?_, ?_, ?_, ?_, fun j => by rw [World.frozen?_setCell]; exact c.free j, by simp only [World.setCell, Array.size_modify]; exact c.lt⟩
  all_goals rw [World.cell?_setCell_other _ _ _ _ (e _ (by decide))]
  · exact c.c0
  · exact c.c2
  · exact c.c3
  · exact c.c4
  · exact c.c5

set_option maxRecDepth 100000 in
theorem rFrom_bad (t : Int) (h : t < 0 ∨ 226157759 < t) (w : World) :
    Calls Tryd.prog 39 #[.int .i64 t] w fun e w' => e = .returned (.tuple #[civ 0 0 0 0 0 0, .int .i64 30]) ∧ w.grownBy w' none := by
  have hdone : ∀ o, w.grownBy (w.alloc o) none := fun o => World.grownBy_alloc w o none
  by_cases h1 : t < 0
  · clear h
    go_enter Tryd.func39, Tryd.ntmps39
    go_wp2
    go_returns
    exact ⟨rfl, hdone _⟩
  · have h2 : 226157759 < t := by omega
    clear h
    go_enter Tryd.func39, Tryd.ntmps39
    go_wp2
    go_returns
    exact ⟨rfl, hdone _⟩

set_option maxRecDepth 100000 in
set_option maxHeartbeats 800000 in
theorem rFrom_ok (t : Int) (h1 : 0 ≤ t) (h2 : t ≤ 226157759) (w : World) :
    Calls Tryd.prog 39 #[.int .i64 t] w fun e w' => ∃ y m d, Civ.At (t / 1440) y m d ∧
      e = .returned (.tuple #[civ y m d (t % 1440 / 60) (t % 60) (Civ.wk (t / 1440)), .int .i64 0]) ∧ w.grownBy w' none := by
  have hb1 : t / 1440 < 157054 := by omega
  have eh : t / 60 % 24 = t % 1440 / 60 := by omega
  have ew : Civ.wk (t / 1440) = (t / 1440 + 4) % 7 := rfl
  rw [ew, ← eh]
  clear eh ew
  have ht0 : decide (t < 0) = false := by simp; omega
  have ht1 : decide (226157759 < t) = false := by simp; omega
  have hA := grown_alloc (grown_alloc (grown_refl w none) (.cells #[.int .i64 0, .int .i64 0, .int .i64 0, .int .i64 0, .int .i64 0, .int .i64 0] 37)) (.cells #[.int .i64 1970, .int .i64 1, .int .i64 0, .int .i64 (t / 60 % 24), .int .i64 (t % 60), .int .i64 ((t / 1440 + 4) % 7)] 37)
  have hB := CivAt.new (w.alloc (.cells #[.int .i64 0, .int .i64 0, .int .i64 0, .int .i64 0, .int .i64 0, .int .i64 0] 37)) 1970 1 0 (t / 60 % 24) (t % 60) ((t / 1440 + 4) % 7) 37
  have hC := (CivAt.new w 0 0 0 0 0 0 37).kept (World.grownBy_alloc _ (.cells #[.int .i64 1970, .int .i64 1, .int .i64 0, .int .i64 (t / 60 % 24), .int .i64 (t % 60), .int .i64 ((t / 1440 + 4) % 7)] 37) none)
  rw [show (w.alloc (.cells #[.int .i64 0, .int .i64 0, .int .i64 0, .int .i64 0, .int .i64 0, .int .i64 0] 37)).heap.size = w.heap.size + 1 by simp] at hB
  go_enter Tryd.func39, Tryd.ntmps39
  go_wp2
  go_loopw [4] (fun d wr => ∃ y n' : Int, 1970 ≤ y ∧ 0 ≤ n' ∧ n' ≤ 157053 ∧ d = .int .i64 n' ∧ Hid (t / 1440 = Civ.d2y y + n') ∧ CivAt wr (w.heap.size + 1) y 1 0 (t / 60 % 24) (t % 60) ((t / 1440 + 4) % 7) ∧ CivAt wr w.heap.size 0 0 0 0 0 0 ∧ w.grownBy wr none) (fun d _ => (intOf d).toNat)
  case atStart => exact ⟨1970, t / 1440, by omega, by omega, by omega, rfl, by show _ = _; rw [Civ.d2y_first]; omega, hB, hC, hA⟩
  case round =>
    obtain ⟨y, n', hy1, hn', hn2, rfl, HN, cB, cC, hg⟩ := hrel
    have hy2 := Civ.year_last (y := y) (n := t / 1440) (by have := HN.out; omega) hb1
    have HY := rYear_any y (by omega) (by omega)
    have hl : 0 ≤ Civ.lp y ∧ Civ.lp y ≤ 1 := by have := Civ.lp_two y; omega
    have HS : Hid (Civ.d2y (y + 1) = Civ.d2y y + 365 + Civ.lp y) := Civ.d2y_succ y
    obtain ⟨l, hl'⟩ : ∃ l, l = Civ.lp y := ⟨_, rfl⟩
    have HL : Hid (l = Civ.lp y) := hl'
    rw [← hl'] at HY hl HS
    clear hl' hA hB hC
    have c0 := cB.c0
    have z0 := cB.free 0
    by_cases hle : 365 + l ≤ n'
    · go_wp2_with (go_at_call 38; go_must (refine (HY _).mono ?_); rintro e w1 ⟨rfl, rfl⟩)
      go_roundw
      case rel => exact ⟨y + 1, n' - (365 + l), by omega, by omega, by omega, by go_num, by show _ = _; rw [HS.out]; have := HN.out; omega, cB.set0 _, cC.other (by omega), grown_set_new hg _ (by simp) _⟩
      case measure => simp [intOf]; omega
    · go_wp2_with (go_at_call 38; go_must (refine (HY _).mono ?_); rintro e w1 ⟨rfl, rfl⟩)
      have HE : Hid (n' < 365 + Civ.lp y) := by show _ < _; rw [← HL.out]; omega
      clear HY HS HL hl c0 z0 hle
      go_loopw [4] (fun d wr => ∃ m n'' : Int, 1 ≤ m ∧ m ≤ 12 ∧ 0 ≤ n'' ∧ n'' ≤ n' ∧ d = .int .i64 n'' ∧ Hid (n' = Civ.cum y m + n'') ∧ CivAt wr (w.heap.size + 1) y m 0 (t / 60 % 24) (t % 60) ((t / 1440 + 4) % 7) ∧ CivAt wr w.heap.size 0 0 0 0 0 0 ∧ w.grownBy wr none) (fun d _ => (intOf d).toNat)
      case atStart => exact ⟨1, n', by omega, by omega, hn', by omega, rfl, by show _ = _; rw [Civ.cum_one]; omega, cB, cC, hg⟩
      case round =>
        clear cB cC hg
        obtain ⟨m, n'', hm1, hm2, hq1, hq2, rfl, HM, cB, cC, hg⟩ := hrel
        have HY := rDays_any y m
        rw [Civ.dys_in hy1 hy2 hm1 hm2] at HY
        have hdm := Civ.dim_bd y m
        have HS : Hid (Civ.cum y (m + 1) = Civ.cum y m + Civ.dim y m) := Civ.cum_succ hm1 hm2
        have HF : Hid (Civ.cum y 13 = 365 + Civ.lp y) := Civ.cum_end y
        obtain ⟨D, hD'⟩ : ∃ D, D = Civ.dim y m := ⟨_, rfl⟩
        have HD : Hid (D = Civ.dim y m) := hD'
        rw [← hD'] at HY hdm HS
        clear hD'
        by_cases hle : D ≤ n''
        · have HM11 : Hid (m ≤ 11) := by
            show m ≤ 11
            by_cases c : m ≤ 11
            · exact c
            · obtain rfl : m = 12 := by omega
              have a := HS.out
              have b := HF.out
              have e : (12 : Int) + 1 = 13 := by decide
              rw [e] at a
              have := HM.out
              have := HE.out
              omega
          have c0 := cB.c0
          have c1 := cB.c1
          go_wp2_with (first
            | (go_at_call 37; have _t := hg; go_must (refine (HY _).mono ?_); rintro e w2 ⟨rfl, hg2⟩; clear c0 c1; have cB2 := cB.kept hg2; have cC2 := cC.kept hg2; have hg' := grown_more hg hg2 (by simp); clear hg; have c0 := cB2.c0; have c1 := cB2.c1)
            | (go_at_call 37; go_must (refine (HY _).mono ?_); rintro e w3 ⟨rfl, hg3⟩; clear c0 c1; have cB3 := cB2.kept hg3; have cC3 := cC2.kept hg3; have hg'' := grown_more hg' hg3 (by simp); have c1 := cB3.c1; have z1 := cB3.free 1))
          go_roundw
          case rel => exact ⟨m + 1, n'' - D, by omega, by have := HM11.out; omega, by omega, by omega, by go_num, by show _ = _; rw [HS.out]; have := HM.out; omega, cB3.set1 _, cC3.other (by omega), grown_set_new hg'' _ (by simp) _⟩
          case measure => simp [intOf]; omega
        · have c0 := cB.c0
          have c1 := cB.c1
          go_wp2_with (go_at_call 37; go_must (refine (HY _).mono ?_); rintro e w2 ⟨rfl, hg2⟩; clear c0 c1; have cB2 := cB.kept hg2; have cC2 := cC.kept hg2; have hg' := grown_more hg hg2 (by simp); clear hg; obtain ⟨c0, c1, c2, c3, c4, c5, cf, cl⟩ := cB2; obtain ⟨e0, e1, e2, e3, e4, e5, ef, el⟩ := cC2)
          have HA : Civ.At (t / 1440) y m (n'' + 1) := ⟨hy1, hy2, hm1, hm2, by omega, by rw [← HD.out]; omega, by have := HN.out; have := HM.out; omega⟩
          generalize hW : World.setCell _ _ _ = W
          have r0 : W.cell? ⟨w.heap.size, 0, none⟩ = some (.int .i64 y) := by subst hW; go_simp
          have r1 : W.cell? ⟨w.heap.size, 1, none⟩ = some (.int .i64 m) := by subst hW; go_simp
          have r2 : W.cell? ⟨w.heap.size, 2, none⟩ = some (.int .i64 (n'' + 1)) := by subst hW; go_simp
          have r3 : W.cell? ⟨w.heap.size, 3, none⟩ = some (.int .i64 (t / 60 % 24)) := by subst hW; go_simp
          have r4 : W.cell? ⟨w.heap.size, 4, none⟩ = some (.int .i64 (t % 60)) := by subst hW; go_simp
          have r5 : W.cell? ⟨w.heap.size, 5, none⟩ = some (.int .i64 ((t / 1440 + 4) % 7)) := by subst hW; go_simp
          have HG : w.grownBy W none := by subst hW; exact grown_set_new (grown_set_new (grown_set_new (grown_set_new (grown_set_new (grown_set_new (grown_set_new hg' _ (by simp) _) _ (by simp) _) _ (by simp) _) _ (by simp) _) _ (by simp) _) _ (by simp) _) _ (by simp) _
          clear hW
          refine bodyPost_ret (v := .tuple #[civ y m (n'' + 1) (t / 60 % 24) (t % 60) ((t / 1440 + 4) % 7), .int .i64 0]) (by simp [results, Tryd.results39, go_sem, r0, r1, r2, r3, r4, r5]) rfl ?_
          exact ⟨y, m, n'' + 1, HA, rfl, HG⟩

/-- The document's 'From', of an instant whose day's date is known. -/
theorem rFrom_at {t y m d : Int} (hA : Civ.At (t / 1440) y m d) (w : World) :
    Calls Tryd.prog 39 #[.int .i64 t] w fun e w' => e = .returned (.tuple #[civ y m d (t % 1440 / 60) (t % 60) (Civ.wk (t / 1440)), .int .i64 0]) ∧ w.grownBy w' none := by
  have hr := hA.range
  refine (rFrom_ok t (by omega) (by omega) w).mono fun e w' ⟨y', m', d', hA', he, hg⟩ => ?_
  obtain ⟨rfl, rfl, rfl⟩ := hA.one hA'
  exact ⟨he, hg⟩
end Go.Proofs.YtlnafkcoicaefaaDoor
