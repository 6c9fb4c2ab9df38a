/- 'CivilDates', walked; how slices of numbers and of minutes by the calendar are read. -/
import Derived.Test.YtdkiolghjdlkeaaVRefTo
import Derived.Test.YtdkiolghjdlkeaaVAwake
import Derived.Test.YtdkiolghjdlkeaaVArgs
import Derived.Deep.Strs
namespace Go.Proofs.Ytdkiolghjdlkeaa
open Go.ChangeShapes Go.WideShapes Go.ChangeAt Go.RowKit
set_option linter.unusedVariables false

/-- Each of the first n elements is a number. -/
def Si (w : World) (a : Option Addr) (n : Nat) : Prop := ∀ i, i < n → ∃ b off z, a = some ⟨b, off, none⟩ ∧ w.cell? ⟨b, off + i, none⟩ = some (.int .i64 z)
theorem Si.kept {w w' : World} {a : Option Addr} {n : Nat} (h : Si w a n) (g : w.grownBy w' none) : Si w' a n := fun i hi => by
  obtain ⟨b, off, z, e, hc⟩ := h i hi
  exact ⟨b, off, z, e, g.cell hc (by simp)⟩
/-- Six numbers one behind the other. -/
structure Six (w : World) (b o : Nat) (y m d h n k : Int) : Prop where
  c0 : w.cell? ⟨b, o, none⟩ = some (.int .i64 y)
  c1 : w.cell? ⟨b, o + 1, none⟩ = some (.int .i64 m)
  c2 : w.cell? ⟨b, o + 2, none⟩ = some (.int .i64 d)
  c3 : w.cell? ⟨b, o + 3, none⟩ = some (.int .i64 h)
  c4 : w.cell? ⟨b, o + 4, none⟩ = some (.int .i64 n)
  c5 : w.cell? ⟨b, o + 5, none⟩ = some (.int .i64 k)
/-- Each of the first n elements is a minute by the calendar, or what has its form. -/
def Sc (w : World) (a : Option Addr) (n : Nat) : Prop := ∀ i, i < n → ∃ b off y m d h n k, a = some ⟨b, off, none⟩ ∧ Six w b (off + i * 6) y m d h n k
theorem Sc.kept {w w' : World} {a : Option Addr} {n : Nat} (h : Sc w a n) (g : w.grownBy w' none) : Sc w' a n := fun i hi => by
  obtain ⟨b, off, y, m, d, h', n', k, e, hc⟩ := h i hi
  exact ⟨b, off, y, m, d, h', n', k, e, g.cell hc.c0 (by simp), g.cell hc.c1 (by simp), g.cell hc.c2 (by simp), g.cell hc.c3 (by simp), g.cell hc.c4 (by simp), g.cell hc.c5 (by simp)⟩

theorem open_si {H : Type} {enc : TypeId × Value → H} {W : World} {r : Reach} {base : Nat} {v : Value} {d : DataW H} {p : List MemPlace}
    (hv : Value.okWide Try.prog W r base 22 v) (h : DataW.Trod enc Try.prog W 0 (fun _ => true) true 22 v d p) :
    ∃ a n c, v = .slice a n c ∧ Si W a n ∧ n ≤ 9223372036854775807 := by
  obtain ⟨a, len, cap, rfl⟩ := okWide_slice Try.underlying22 hv
  obtain ⟨fuel, hf⟩ := h
  rcases open_ints Try.underlying22 Try.underlying2 (by kernel_rfl) hf with ⟨hcs, hx⟩ | ⟨x, l, c, zs, hcs, _, hl, hm, hz, hx, hcell, hwz⟩
  · simp [Value.cells] at hcs
    obtain ⟨rfl, rfl, rfl⟩ := hcs
    exact ⟨none, 0, 0, rfl, fun i hi => by omega, by omega⟩
  · simp [Value.cells] at hcs
    obtain ⟨rfl, rfl, rfl⟩ := hcs
    have hm' : cap ≤ 9223372036854775807 := hm
    have hz' : zs.length = cap := by simpa using hz
    refine ⟨some x, len, cap, rfl, fun i hi => ?_, by omega⟩
    obtain ⟨b, off, rfl, hc⟩ := ints_at hcell (by omega)
    exact ⟨b, off, _, rfl, hc i (by omega)⟩

theorem cellsCivil : Try.prog.cellsOf 26 = 6 := by kernel_rfl
theorem cellsInt : Try.prog.cellsOf 3 = 1 := by kernel_rfl

theorem civ_cells {H : Type} {enc : TypeId × Value → H} {W : World} {base fuel : Nat} {spare : Nat → Bool} {held : Bool} {cs : List Value} {x : DataW H × List MemPlace}
    (h : DataW.trod enc Try.prog W base spare held fuel 26 cs = some x) : ∃ y m d h n k : Int, cs = [.int .i64 y, .int .i64 m, .int .i64 d, .int .i64 h, .int .i64 n, .int .i64 k] := by
  obtain ⟨xs, n, _, _, hl, hlen, hf⟩ := DataW.trod_struct Try.underlying26 h
  rw [cellsCivil] at hl
  match cs, hl with
  | [c0, c1, c2, c3, c4, c5], _ =>
    have h0 : DataW.trod enc Try.prog W base spare held n 3 (([c0, c1, c2, c3, c4, c5].drop 0).take (Try.prog.cellsOf 3)) = xs[0]? := hf 0 _ rfl
    have h1 : DataW.trod enc Try.prog W base spare held n 3 (([c0, c1, c2, c3, c4, c5].drop 1).take (Try.prog.cellsOf 3)) = xs[1]? := hf 1 _ rfl
    have h2 : DataW.trod enc Try.prog W base spare held n 3 (([c0, c1, c2, c3, c4, c5].drop 2).take (Try.prog.cellsOf 3)) = xs[2]? := hf 2 _ rfl
    have h3 : DataW.trod enc Try.prog W base spare held n 3 (([c0, c1, c2, c3, c4, c5].drop 3).take (Try.prog.cellsOf 3)) = xs[3]? := hf 3 _ rfl
    have h4 : DataW.trod enc Try.prog W base spare held n 3 (([c0, c1, c2, c3, c4, c5].drop 4).take (Try.prog.cellsOf 3)) = xs[4]? := hf 4 _ rfl
    have h5 : DataW.trod enc Try.prog W base spare held n 3 (([c0, c1, c2, c3, c4, c5].drop 5).take (Try.prog.cellsOf 3)) = xs[5]? := hf 5 _ rfl
    have len6 : xs.length = 6 := hlen
    rw [List.getElem?_eq_getElem (by omega)] at h0 h1 h2 h3 h4 h5
    simp only [cellsInt, List.drop_zero, List.drop_succ_cons, List.take_succ_cons, List.take_zero] at h0 h1 h2 h3 h4 h5
    obtain ⟨y, e0, _, _⟩ := DataW.trod_int Try.underlying3 h0
    obtain ⟨m, e1, _, _⟩ := DataW.trod_int Try.underlying3 h1
    obtain ⟨d, e2, _, _⟩ := DataW.trod_int Try.underlying3 h2
    obtain ⟨h, e3, _, _⟩ := DataW.trod_int Try.underlying3 h3
    obtain ⟨n, e4, _, _⟩ := DataW.trod_int Try.underlying3 h4
    obtain ⟨k, e5, _, _⟩ := DataW.trod_int Try.underlying3 h5
    refine ⟨y, m, d, h, n, k, ?_⟩
    simp at e0 e1 e2 e3 e4 e5
    rw [e0, e1, e2, e3, e4, e5]

theorem open_sc {H : Type} {enc : TypeId × Value → H} {W : World} {r : Reach} {base : Nat} {v : Value} {d : DataW H} {p : List MemPlace}
    (hv : Value.okWide Try.prog W r base 23 v) (h : DataW.Trod enc Try.prog W 0 (fun _ => true) true 23 v d p) :
    ∃ a n c, v = .slice a n c ∧ Sc W a n ∧ n ≤ 9223372036854775807 := by
  obtain ⟨a, len, cap, rfl⟩ := okWide_slice Try.underlying23 hv
  obtain ⟨fuel, hf⟩ := h
  rcases Go.Deep.open_slice Try.underlying23 hf with ⟨hcs, hx⟩ | ⟨x, l, c, m, n, D, Pl, hcs, hb, hl, hm, hmm, hx, hall⟩
  · simp [Value.cells] at hcs
    obtain ⟨rfl, rfl, rfl⟩ := hcs
    exact ⟨none, 0, 0, rfl, fun i hi => by omega, by omega⟩
  · simp [Value.cells] at hcs
    obtain ⟨rfl, rfl, rfl⟩ := hcs
    have hm' : cap ≤ 9223372036854775807 := hm
    have hlm : len ≤ m := by rw [hmm]; simp; exact hl
    have each : ∀ i, i < len → ∃ y m d h n k : Int, W.cell? (x.add (i * 6)) = some (.int .i64 y) ∧ W.cell? (x.add (i * 6 + 1)) = some (.int .i64 m) ∧ W.cell? (x.add (i * 6 + 2)) = some (.int .i64 d) ∧
        W.cell? (x.add (i * 6 + 3)) = some (.int .i64 h) ∧ W.cell? (x.add (i * 6 + 4)) = some (.int .i64 n) ∧ W.cell? (x.add (i * 6 + 5)) = some (.int .i64 k) := by
      intro i hi
      obtain ⟨cs', h1, h2⟩ := hall i (by omega)
      rw [cellsCivil] at h1
      obtain ⟨y, m', d', h', n', k, rfl⟩ := civ_cells h2
      obtain ⟨_, hlen, hcell⟩ := World.cells?_some h1
      refine ⟨y, m', d', h', n', k, ?_, ?_, ?_, ?_, ?_, ?_⟩
      · have := hcell 0 (by simp); rw [Go.Deep.add_add] at this; simpa using this
      · have := hcell 1 (by simp); rw [Go.Deep.add_add] at this; simpa using this
      · have := hcell 2 (by simp); rw [Go.Deep.add_add] at this; simpa using this
      · have := hcell 3 (by simp); rw [Go.Deep.add_add] at this; simpa using this
      · have := hcell 4 (by simp); rw [Go.Deep.add_add] at this; simpa using this
      · have := hcell 5 (by simp); rw [Go.Deep.add_add] at this; simpa using this
    refine ⟨some x, len, cap, rfl, fun i hi => ?_, by omega⟩
    obtain ⟨b, off, spot⟩ := x
    obtain ⟨_, _, _, _, _, _, s0, _⟩ := each 0 (by omega)
    have hspot : spot = none := by simpa [Addr.add] using World.cell?_spot s0
    subst hspot
    obtain ⟨y, m', d', h', n', k, g0, g1, g2, g3, g4, g5⟩ := each i hi
    rw [Addr.add_lit] at g0 g1 g2 g3 g4 g5
    exact ⟨b, off, y, m', d', h', n', k, rfl, g0, by rw [Nat.add_assoc]; exact g1, by rw [Nat.add_assoc]; exact g2, by rw [Nat.add_assoc]; exact g3, by rw [Nat.add_assoc]; exact g4, by rw [Nat.add_assoc]; exact g5⟩

/-- Both answer alike, whatever the number. -/
theorem from_both (t : Int) : ∃ y m d h n k e : Int,
    (∀ w, Calls Try.prog 9 #[.int .i64 t] w fun e' w' => e' = .returned (.tuple #[civ y m d h n k, .int .i64 e]) ∧ w.grownBy w' none) ∧
    ∀ w, Calls Try.prog 10 #[.int .i64 t] w fun e' w' => e' = .returned (.tuple #[civ y m d h n k, .int .i64 e]) ∧ w.grownBy w' none := by
  by_cases hb : t < 0 ∨ 226157759 < t
  · exact ⟨0, 0, 0, 0, 0, 0, 30, from_bad t hb, rFrom_bad t hb⟩
  · obtain ⟨y, m, d, hA⟩ := Civ.At.is (n := t / 1440) (by omega) (by omega)
    exact ⟨y, m, d, _, _, _, 0, from_at hA, rFrom_at hA⟩
theorem to_both (y m d h n k : Int) : ∃ t e : Int,
    (∀ w, Calls Try.prog 11 #[civ y m d h n k] w fun e' w' => e' = .returned (.tuple #[.int .i64 t, .int .i64 e]) ∧ w.grownBy w' none) ∧
    ∀ w, Calls Try.prog 12 #[civ y m d h n k] w fun e' w' => e' = .returned (.tuple #[.int .i64 t, .int .i64 e]) ∧ w.grownBy w' none := by
  by_cases hT : Thr y m d h n
  · exact ⟨_, 0, to_ok y m d h n k hT, rTo_ok y m d h n k hT⟩
  · exact ⟨0, 30, to_bad y m d h n k hT, rTo_bad y m d h n k hT⟩

set_option maxRecDepth 100000 in
set_option maxHeartbeats 1600000 in
theorem civilDates.walk0 (w : World) (a : Option Addr) (n c : Nat) (b : Option Addr) (m c' : Nat) (ha : Si w a n) (hb : Sc w b m) (hn : n ≤ 9223372036854775807) (hm : m ≤ 9223372036854775807) :
    Calls Try.prog 3 #[.slice a n c, .slice b m c'] w fun e w' => e = .returned (.bool true) ∧ Below w.heap.size w w' := by
  have hnot : ∀ (x : Bool) (w : World), (Op.unary .not (.bool x)).run Try.prog w = .ok (.bool (!x)) w := fun _ _ => rfl
  go_enter Try.func3, Try.ntmps3
  go_wp2_with (go_at_call 8; go_must (refine (awake_any _).mono ?_); rintro e w1 ⟨rfl, hg1⟩)
  go_loopw [5] (fun i wr => ∃ j : Nat, j ≤ 256 ∧ i = .int .i64 j ∧ w.grownBy wr none) (fun i _ => (256 - intOf i).toNat)
  case atStart => exact ⟨0, by omega, rfl, hg1⟩
  case round =>
    obtain ⟨j, hj, rfl, hg⟩ := hrel
    clear hg1
    by_cases h1 : j < n ∧ j < 256
    · obtain ⟨h1, h2⟩ := h1
      obtain ⟨bl, off, z, rfl, hc⟩ := (ha.kept hg) j h1
      obtain ⟨y, mm, d, h, nn, k, e, F1, F2⟩ := from_both z
      have h1' : (j : Int) < (n : Int) := by omega
      have h2' : (j : Int) < 256 := by omega
      go_wp2_with (first
        | (go_at_call 9; go_must (refine (F1 _).mono ?_); rintro e1 w2 ⟨rfl, hg2⟩
           have hc2 := (World.grownBy_alloc w2 (.cells #[.int .i64 y, .int .i64 mm, .int .i64 d, .int .i64 h, .int .i64 nn, .int .i64 k] 26) none).cell (hg2.cell hc (by simp)) (by simp))
        | (go_at_call 10; go_must (refine (F2 _).mono ?_); rintro e2 w3 ⟨rfl, hg3⟩
           obtain ⟨c0, c1, c2, c3, c4, c5⟩ := six_kept hg3
           have s3 := size_kept hg3))
      go_roundw
      case rel => exact ⟨j + 1, by omega, by go_num, grown_alloc (grown_more (grown_alloc (grown_more hg hg2 (by simp)) _) hg3 (by simp)) _⟩
      case measure => simp [intOf]; omega
    · have hcase : (n : Int) ≤ (j : Int) ∨ ((j : Int) < (n : Int) ∧ (256 : Int) ≤ (j : Int)) := by omega
      clear h1 ha hn
      rcases hcase with h1 | ⟨h1, h2⟩
      all_goals
        go_wp2
        clear h1
        go_loopw [10] (fun i wr => ∃ q : Nat, q ≤ 256 ∧ i = .int .i64 q ∧ w.grownBy wr none) (fun i _ => (256 - intOf i).toNat)
        case atStart => exact ⟨0, by omega, rfl, hg⟩
        case round =>
          clear hg
          obtain ⟨q, hq, rfl, hg⟩ := hrel
          by_cases h3 : q < m ∧ q < 256
          · obtain ⟨h3, h4⟩ := h3
            obtain ⟨bl, off, y, mm, d, h, nn, k, rfl, hs⟩ := (hb.kept hg) q h3
            obtain ⟨t, e, T1, T2⟩ := to_both y mm d h nn k
            have h3' : (q : Int) < (m : Int) := by omega
            have h4' : (q : Int) < 256 := by omega
            obtain ⟨c0, c1, c2, c3, c4, c5⟩ := hs
            go_wp2_with (first
              | (go_at_call 11; go_must (refine (T1 _).mono ?_); rintro e1 w2 ⟨rfl, hg2⟩
                 have d0 := hg2.cell c0 (by simp)
                 have d1 := hg2.cell c1 (by simp)
                 have d2 := hg2.cell c2 (by simp)
                 have d3 := hg2.cell c3 (by simp)
                 have d4 := hg2.cell c4 (by simp)
                 have d5 := hg2.cell c5 (by simp))
              | (go_at_call 12; go_must (refine (T2 _).mono ?_); rintro e2 w3 ⟨rfl, hg3⟩))
            go_roundw
            case rel => exact ⟨q + 1, by omega, by go_num, grown_more (grown_more hg hg2 (by simp)) hg3 (by simp)⟩
            case measure => simp [intOf]; omega
          · have hcase : (m : Int) ≤ (q : Int) ∨ ((q : Int) < (m : Int) ∧ (256 : Int) ≤ (q : Int)) := by omega
            clear h3
            rcases hcase with h5 | ⟨h5, h6⟩
            all_goals
              go_wp2
              go_ret
              exact ⟨rfl, grown_below hg⟩

theorem civilDates.walk (w : World) (v0 : Value) (h0 : ∃ a n c, v0 = .slice a n c ∧ Si w a n ∧ n ≤ 9223372036854775807) (v1 : Value) (h1 : ∃ a n c, v1 = .slice a n c ∧ Sc w a n ∧ n ≤ 9223372036854775807) :
    Calls Try.prog 3 #[v0, v1] w fun e w' => e = .returned (.bool true) ∧ Below w.heap.size w w' := by
  obtain ⟨a, n, c, rfl, ha, hn⟩ := h0
  obtain ⟨b, m, c', rfl, hb, hm⟩ := h1
  exact civilDates.walk0 w a n c b m c' ha hb hn hm
end Go.Proofs.Ytdkiolghjdlkeaa
