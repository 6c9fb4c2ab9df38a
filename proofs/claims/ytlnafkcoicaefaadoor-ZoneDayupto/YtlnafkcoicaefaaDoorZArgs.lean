/- How a zone's rules, and slices of numbers and of minutes, that came in are read. -/
import Derived.Test.YtlnafkcoicaefaaDoorZAwake
import Derived.Test.YtlnafkcoicaefaaDoorVArgs
import Derived.Deep.Strs
namespace Go.Proofs.YtlnafkcoicaefaaDoor
open Go.ChangeShapes Go.WideShapes Go.ChangeAt Go.RowKit
set_option linter.unusedVariables false
set_option maxRecDepth 100000

section
variable {H : Type} {enc : TypeId × Value → H} {w : World} {base : Nat} {sp : Nat → Bool} {held : Bool}
theorem any_int {fuel : Nat} {cs : List Value} {d : DataW H} {p : List MemPlace} (h : DataW.trod enc Tryd.prog w base sp held fuel 3 cs = some (d, p)) : ∃ a, cs = [.int .i64 a] := by
  obtain ⟨n, rfl, _, _⟩ := DataW.trod_int Tryd.underlying3 h
  exact ⟨n, rfl⟩
theorem any_rule {fuel : Nat} {cs : List Value} {d : DataW H} {p : List MemPlace} (h : DataW.trod enc Tryd.prog w base sp held fuel 23 cs = some (d, p)) : ∃ r, cs = rc r := by
  obtain ⟨xs, n, _, hx, hl, hxs, hf⟩ := DataW.trod_struct Tryd.underlying23 h
  have hl' : xs.length = 4 := hxs
  match xs, hl', hf with
  | [x0, x1, x2, x3], _, hf =>
    obtain ⟨a0, h0⟩ := any_int (field_of hf 0 3 0 1 x0 rfl cells_int rfl)
    obtain ⟨a1, h1⟩ := any_int (field_of hf 1 3 1 1 x1 rfl cells_int rfl)
    obtain ⟨a2, h2⟩ := any_int (field_of hf 2 3 2 1 x2 rfl cells_int rfl)
    obtain ⟨a3, h3⟩ := any_int (field_of hf 3 3 3 1 x3 rfl cells_int rfl)
    rw [cells_rule] at hl
    exact ⟨⟨a0, a1, a2, a3⟩, whole hl (cut (cut (cut h0 h1) h2) h3)⟩
theorem any_zone {fuel : Nat} {cs : List Value} {d : DataW H} {p : List MemPlace} (h : DataW.trod enc Tryd.prog w base sp held fuel 25 cs = some (d, p)) : ∃ z, cs = zc z := by
  obtain ⟨xs, n, _, hx, hl, hxs, hf⟩ := DataW.trod_struct Tryd.underlying25 h
  have hl' : xs.length = 4 := hxs
  match xs, hl', hf with
  | [x0, x1, x2, x3], _, hf =>
    obtain ⟨a0, h0⟩ := any_int (field_of hf 0 3 0 1 x0 rfl cells_int rfl)
    obtain ⟨a1, h1⟩ := any_int (field_of hf 1 3 1 1 x1 rfl cells_int rfl)
    obtain ⟨r2, h2⟩ := any_rule (field_of hf 2 23 2 4 x2 rfl cells_rule rfl)
    obtain ⟨r3, h3⟩ := any_rule (field_of hf 3 23 6 4 x3 rfl cells_rule rfl)
    rw [cells_zone] at hl
    exact ⟨⟨a0, a1, r2, r3⟩, whole hl (cut (cut (cut h0 h1) h2) h3)⟩
end
/-- A zone's rules that came in. -/
theorem open_zone {H : Type} {enc : TypeId × Value → H} {W : World} {r : Reach} {base : Nat} {v : Value} {d : DataW H} {p : List MemPlace}
    (hv : Value.okWide Tryd.prog W r base 25 v) (h : DataW.Trod enc Tryd.prog W 0 (fun _ => true) true 25 v d p) : ∃ z, v = zon z := by
  obtain ⟨cs, rfl, _⟩ := okWide_struct Tryd.underlying25 hv
  obtain ⟨fuel, hf⟩ := h
  obtain ⟨z, hz⟩ := any_zone hf
  refine ⟨z, ?_⟩
  have : cs.toList = zc z := hz
  cases cs
  simp at this
  subst this
  rfl

/-- Each of the first n elements is a number. -/
def Si (w : World) (a : Option Addr) (n : Nat) : Prop := ∀ i, i < n → ∃ b off z, a = some ⟨b, off, none⟩ ∧ w.cell? ⟨b, off + i, none⟩ = some (.int .i64 z) ∧ -9223372036854775808 ≤ z ∧ z ≤ 9223372036854775807
theorem Si.kept {w w' : World} {a : Option Addr} {n : Nat} (h : Si w a n) (g : w.grownBy w' none) : Si w' a n := fun i hi => by
  obtain ⟨b, off, z, e, hc, hz⟩ := h i hi
  exact ⟨b, off, z, e, g.cell hc (by simp), hz⟩
/-- Six numbers one behind the other. -/
structure Six (w : World) (b o : Nat) (y m d h n k : Int) : Prop where
  c0 : w.cell? ⟨b, o, none⟩ = some (.int .i64 y)
  c1 : w.cell? ⟨b, o + 1, none⟩ = some (.int .i64 m)
  c2 : w.cell? ⟨b, o + 2, none⟩ = some (.int .i64 d)
  c3 : w.cell? ⟨b, o + 3, none⟩ = some (.int .i64 h)
  c4 : w.cell? ⟨b, o + 4, none⟩ = some (.int .i64 n)
  c5 : w.cell? ⟨b, o + 5, none⟩ = some (.int .i64 k)
/-- Each of the first n elements is a minute by the calendar, or what has its form. -/
def Sc (w : World) (a : Option Addr) (n : Nat) : Prop := ∀ i, i < n → ∃ b off y m d h n k, a = some ⟨b, off, none⟩ ∧ Six w b (off + i * 6) y m d h n k
theorem Sc.kept {w w' : World} {a : Option Addr} {n : Nat} (h : Sc w a n) (g : w.grownBy w' none) : Sc w' a n := fun i hi => by
  obtain ⟨b, off, y, m, d, h', n', k, e, hc⟩ := h i hi
  exact ⟨b, off, y, m, d, h', n', k, e, g.cell hc.c0 (by simp), g.cell hc.c1 (by simp), g.cell hc.c2 (by simp), g.cell hc.c3 (by simp), g.cell hc.c4 (by simp), g.cell hc.c5 (by simp)⟩

theorem open_si {H : Type} {enc : TypeId × Value → H} {W : World} {r : Reach} {base : Nat} {v : Value} {d : DataW H} {p : List MemPlace}
    (hv : Value.okWide Tryd.prog W r base 34 v) (h : DataW.Trod enc Tryd.prog W 0 (fun _ => true) true 34 v d p) :
    ∃ a n c, v = .slice a n c ∧ Si W a n ∧ n ≤ 9223372036854775807 := by
  obtain ⟨a, len, cap, rfl⟩ := okWide_slice Tryd.underlying34 hv
  obtain ⟨fuel, hf⟩ := h
  rcases open_ints Tryd.underlying34 Tryd.underlying2 (by kernel_rfl) hf with ⟨hcs, hx⟩ | ⟨x, l, c, zs, hcs, _, hl, hm, hz, hx, hcell, hwz⟩
  · simp [Value.cells] at hcs
    obtain ⟨rfl, rfl, rfl⟩ := hcs
    exact ⟨none, 0, 0, rfl, fun i hi => by omega, by omega⟩
  · simp [Value.cells] at hcs
    obtain ⟨rfl, rfl, rfl⟩ := hcs
    have hm' : cap ≤ 9223372036854775807 := hm
    have hz' : zs.length = cap := by simpa using hz
    refine ⟨some x, len, cap, rfl, fun i hi => ?_, by omega⟩
    obtain ⟨b, off, rfl, hc⟩ := ints_at hcell (by omega)
    have hi' : i < zs.length := by omega
    refine ⟨b, off, zs.getD i 0, rfl, hc i (by omega), ?_⟩
    have := in64_of (hwz (zs.getD i 0) (by rw [List.getD_eq_getElem?_getD, List.getElem?_eq_getElem hi']; exact List.getElem_mem hi'))
    omega

theorem cellsCivil : Tryd.prog.cellsOf 37 = 6 := by kernel_rfl

theorem civ_cells {H : Type} {enc : TypeId × Value → H} {W : World} {base fuel : Nat} {spare : Nat → Bool} {held : Bool} {cs : List Value} {x : DataW H × List MemPlace}
    (h : DataW.trod enc Tryd.prog W base spare held fuel 37 cs = some x) : ∃ y m d h n k : Int, cs = [.int .i64 y, .int .i64 m, .int .i64 d, .int .i64 h, .int .i64 n, .int .i64 k] := by
  obtain ⟨xs, n, _, _, hl, hlen, hf⟩ := DataW.trod_struct Tryd.underlying37 h
  rw [cellsCivil] at hl
  match cs, hl with
  | [c0, c1, c2, c3, c4, c5], _ =>
    have h0 : DataW.trod enc Tryd.prog W base spare held n 3 (([c0, c1, c2, c3, c4, c5].drop 0).take (Tryd.prog.cellsOf 3)) = xs[0]? := hf 0 _ rfl
    have h1 : DataW.trod enc Tryd.prog W base spare held n 3 (([c0, c1, c2, c3, c4, c5].drop 1).take (Tryd.prog.cellsOf 3)) = xs[1]? := hf 1 _ rfl
    have h2 : DataW.trod enc Tryd.prog W base spare held n 3 (([c0, c1, c2, c3, c4, c5].drop 2).take (Tryd.prog.cellsOf 3)) = xs[2]? := hf 2 _ rfl
    have h3 : DataW.trod enc Tryd.prog W base spare held n 3 (([c0, c1, c2, c3, c4, c5].drop 3).take (Tryd.prog.cellsOf 3)) = xs[3]? := hf 3 _ rfl
    have h4 : DataW.trod enc Tryd.prog W base spare held n 3 (([c0, c1, c2, c3, c4, c5].drop 4).take (Tryd.prog.cellsOf 3)) = xs[4]? := hf 4 _ rfl
    have h5 : DataW.trod enc Tryd.prog W base spare held n 3 (([c0, c1, c2, c3, c4, c5].drop 5).take (Tryd.prog.cellsOf 3)) = xs[5]? := hf 5 _ rfl
    have len6 : xs.length = 6 := hlen
    rw [List.getElem?_eq_getElem (by omega)] at h0 h1 h2 h3 h4 h5
    simp only [cells_int, List.drop_zero, List.drop_succ_cons, List.take_succ_cons, List.take_zero] at h0 h1 h2 h3 h4 h5
    obtain ⟨y, e0, _, _⟩ := DataW.trod_int Tryd.underlying3 h0
    obtain ⟨m, e1, _, _⟩ := DataW.trod_int Tryd.underlying3 h1
    obtain ⟨d, e2, _, _⟩ := DataW.trod_int Tryd.underlying3 h2
    obtain ⟨h, e3, _, _⟩ := DataW.trod_int Tryd.underlying3 h3
    obtain ⟨n, e4, _, _⟩ := DataW.trod_int Tryd.underlying3 h4
    obtain ⟨k, e5, _, _⟩ := DataW.trod_int Tryd.underlying3 h5
    refine ⟨y, m, d, h, n, k, ?_⟩
    simp at e0 e1 e2 e3 e4 e5
    rw [e0, e1, e2, e3, e4, e5]

theorem open_sc {H : Type} {enc : TypeId × Value → H} {W : World} {r : Reach} {base : Nat} {v : Value} {d : DataW H} {p : List MemPlace}
    (hv : Value.okWide Tryd.prog W r base 26 v) (h : DataW.Trod enc Tryd.prog W 0 (fun _ => true) true 26 v d p) :
    ∃ a n c, v = .slice a n c ∧ Sc W a n ∧ n ≤ 9223372036854775807 := by
  obtain ⟨a, len, cap, rfl⟩ := okWide_slice Tryd.underlying26 hv
  obtain ⟨fuel, hf⟩ := h
  rcases Go.Deep.open_slice Tryd.underlying26 hf with ⟨hcs, hx⟩ | ⟨x, l, c, m, n, D, Pl, hcs, hb, hl, hm, hmm, hx, hall⟩
  · simp [Value.cells] at hcs
    obtain ⟨rfl, rfl, rfl⟩ := hcs
    exact ⟨none, 0, 0, rfl, fun i hi => by omega, by omega⟩
  · simp [Value.cells] at hcs
    obtain ⟨rfl, rfl, rfl⟩ := hcs
    have hm' : cap ≤ 9223372036854775807 := hm
    have hlm : len ≤ m := by rw [hmm]; simp; exact hl
    have each : ∀ i, i < len → ∃ y m d h n k : Int, W.cell? (x.add (i * 6)) = some (.int .i64 y) ∧ W.cell? (x.add (i * 6 + 1)) = some (.int .i64 m) ∧ W.cell? (x.add (i * 6 + 2)) = some (.int .i64 d) ∧
        W.cell? (x.add (i * 6 + 3)) = some (.int .i64 h) ∧ W.cell? (x.add (i * 6 + 4)) = some (.int .i64 n) ∧ W.cell? (x.add (i * 6 + 5)) = some (.int .i64 k) := by
      intro i hi
      obtain ⟨cs', h1, h2⟩ := hall i (by omega)
      rw [cellsCivil] at h1
      obtain ⟨y, m', d', h', n', k, rfl⟩ := civ_cells h2
      obtain ⟨_, hlen, hcell⟩ := World.cells?_some h1
      refine ⟨y, m', d', h', n', k, ?_, ?_, ?_, ?_, ?_, ?_⟩
      · have := hcell 0 (by simp); rw [Go.Deep.add_add] at this; simpa using this
      · have := hcell 1 (by simp); rw [Go.Deep.add_add] at this; simpa using this
      · have := hcell 2 (by simp); rw [Go.Deep.add_add] at this; simpa using this
      · have := hcell 3 (by simp); rw [Go.Deep.add_add] at this; simpa using this
      · have := hcell 4 (by simp); rw [Go.Deep.add_add] at this; simpa using this
      · have := hcell 5 (by simp); rw [Go.Deep.add_add] at this; simpa using this
    refine ⟨some x, len, cap, rfl, fun i hi => ?_, by omega⟩
    obtain ⟨b, off, spot⟩ := x
    obtain ⟨_, _, _, _, _, _, s0, _⟩ := each 0 (by omega)
    have hspot : spot = none := by simpa [Addr.add] using World.cell?_spot s0
    subst hspot
    obtain ⟨y, m', d', h', n', k, g0, g1, g2, g3, g4, g5⟩ := each i hi
    rw [Addr.add_lit] at g0 g1 g2 g3 g4 g5
    exact ⟨b, off, y, m', d', h', n', k, rfl, g0, by rw [Nat.add_assoc]; exact g1, by rw [Nat.add_assoc]; exact g2, by rw [Nat.add_assoc]; exact g3, by rw [Nat.add_assoc]; exact g4, by rw [Nat.add_assoc]; exact g5⟩

end Go.Proofs.YtlnafkcoicaefaaDoor
