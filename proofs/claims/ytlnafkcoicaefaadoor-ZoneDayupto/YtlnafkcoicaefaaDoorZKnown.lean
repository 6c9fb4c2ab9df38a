/- The zones that have names: the variable's cells, and what 'Named' answers. -/
import Derived.Test.YtlnafkcoicaefaaDoorZPast
import Derived.Laws.Rows
import Derived.LaidLaws
import Derived.ChangeArms
import Derived.OpenShut
namespace Go.Proofs.YtlnafkcoicaefaaDoor
open Go.RowKit
set_option linter.unusedVariables false

/-- The names' bytes, and the rules. -/
def nm : Nat → ByteArray
  | 0 => ⟨#[98, 101, 114, 108, 105, 110]⟩
  | 1 => ⟨#[104, 111, 119, 101]⟩
  | 2 => ⟨#[105, 110, 100, 105, 97]⟩
  | 3 => ⟨#[110, 101, 112, 97, 108]⟩
  | 4 => ⟨#[110, 101, 119, 121, 111, 114, 107]⟩
  | 5 => ⟨#[115, 121, 100, 110, 101, 121]⟩
  | _ => ⟨#[117, 116, 99]⟩
def kz : Nat → Zon.Z
  | 0 => ⟨60, 60, ⟨3, 5, 0, 60⟩, ⟨10, 5, 0, 60⟩⟩
  | 1 => ⟨630, 30, ⟨10, 1, 0, 0⟩, ⟨4, 1, 0, 0⟩⟩
  | 2 => ⟨330, 0, ⟨0, 0, 0, 0⟩, ⟨0, 0, 0, 0⟩⟩
  | 3 => ⟨345, 0, ⟨0, 0, 0, 0⟩, ⟨0, 0, 0, 0⟩⟩
  | 4 => ⟨-300, 60, ⟨3, 2, 0, 420⟩, ⟨11, 1, 0, 360⟩⟩
  | 5 => ⟨600, 60, ⟨10, 1, 0, 0⟩, ⟨4, 1, 0, 0⟩⟩
  | _ => ⟨0, 0, ⟨0, 0, 0, 0⟩, ⟨0, 0, 0, 0⟩⟩
def rc (r : Zon.R) : List Value := [.int .i64 r.m, .int .i64 r.k, .int .i64 r.d, .int .i64 r.a]
def zc (z : Zon.Z) : List Value := [.int .i64 z.b] ++ [.int .i64 z.s] ++ rc z.on ++ rc z.off
def ec (i : Nat) : List Value := [.string (nm i)] ++ zc (kz i)
def KC : Array Value := (ec 0 ++ ec 1 ++ ec 2 ++ ec 3 ++ ec 4 ++ ec 5 ++ ec 6).toArray
/-- The variable holds the zones that have names. -/
def Kn (w : World) : Prop := ∃ t fr, w.heap[0]? = some (.cells KC t fr)
theorem Kn.kept {w w' : World} {row : Option Nat} (h : Kn w) (g : w.grownBy w' row) (hr : row ≠ some 0) : Kn w' := by
  obtain ⟨t, fr, e⟩ := h
  refine ⟨t, fr, ?_⟩
  rw [g.block 0 (by obtain ⟨hlt, _⟩ := Array.getElem?_eq_some_iff.mp e; exact hlt) (fun e => hr e.symm)]
  exact e

theorem kz_ok (i : Nat) : (kz i).ok := by
  unfold kz
  split <;> decide

theorem cells_int : Tryd.prog.cellsOf 3 = 1 := by kernel_rfl
theorem cells_rule : Tryd.prog.cellsOf 23 = 4 := by kernel_rfl
theorem cells_zone : Tryd.prog.cellsOf 25 = 10 := by kernel_rfl
theorem cells_string : Tryd.prog.cellsOf 9 = 1 := by kernel_rfl
theorem cells_entry : Tryd.prog.cellsOf 72 = 11 := by kernel_rfl
theorem cells_known : Tryd.prog.cellsOf 73 = 77 := by kernel_rfl

section
variable {H : Type} {enc : TypeId × Value → H} {w : World} {base : Nat} {sp : Nat → Bool} {held : Bool}
theorem cut {cs A B : List Value} {i n : Nat} (hA : cs.take i = A) (hB : (cs.drop i).take n = B) : cs.take (i + n) = A ++ B := by
  rw [List.take_add, hA, hB]
theorem whole {cs A : List Value} {n : Nat} (hl : cs.length = n) (hA : cs.take n = A) : cs = A := by rw [← hA, ← hl, List.take_length]
theorem field_of {fs : Array Field} {xs : List (DataW H × List MemPlace)} {n : Nat} {cs : List Value} (hf : ∀ (i : Nat) (f : Field), fs[i]? = some f → DataW.trod enc Tryd.prog w base sp held n f.type ((cs.drop f.offset).take (Tryd.prog.cellsOf f.type)) = xs[i]?)
    (i : Nat) (t : TypeId) (off k : Nat) (x : DataW H × List MemPlace) (hfi : (fs[i]?).map (fun f => (f.type, f.offset)) = some (t, off)) (hk : Tryd.prog.cellsOf t = k) (hx : xs[i]? = some x) : DataW.trod enc Tryd.prog w base sp held n t ((cs.drop off).take k) = some (x.1, x.2) := by
  obtain ⟨f, h1, h2⟩ := Option.map_eq_some_iff.mp hfi
  simp only [Prod.mk.injEq] at h2
  obtain ⟨rfl, rfl⟩ := h2
  subst hk
  rw [hf i f h1, hx]
theorem int_cells {fuel : Nat} {cs : List Value} {a : Int} {d : DataW H} {p : List MemPlace} (h : DataW.trod enc Tryd.prog w base sp held fuel 3 cs = some (d, p)) (hd : DataW.lit (.int .i64 a) = d) : cs = [.int .i64 a] := by
  subst hd
  obtain ⟨n, rfl, e, _⟩ := DataW.trod_int Tryd.underlying3 h
  simp at e
  rw [e.1]
theorem string_cells {fuel : Nat} {cs : List Value} {s : ByteArray} {d : DataW H} {p : List MemPlace} (h : DataW.trod enc Tryd.prog w base sp held fuel 9 cs = some (d, p)) (hd : DataW.lit (.string s.data.toList) = d) : cs = [.string s] := by
  subst hd
  obtain ⟨s', rfl, e, _⟩ := DataW.trod_string Tryd.underlying9 h
  simp at e
  cases s
  cases s'
  simp at e
  rw [e.1]
def rd (r : Zon.R) : DataW H := .agg [.lit (.int .i64 r.m), .lit (.int .i64 r.k), .lit (.int .i64 r.d), .lit (.int .i64 r.a)]
def zd (z : Zon.Z) : DataW H := .agg [.lit (.int .i64 z.b), .lit (.int .i64 z.s), rd z.on, rd z.off]
def ed (i : Nat) : DataW H := .agg [.lit (.string (nm i).data.toList), zd (kz i)]
theorem rule_cells {fuel : Nat} {cs : List Value} {r : Zon.R} {d : DataW H} {p : List MemPlace} (h : DataW.trod enc Tryd.prog w base sp held fuel 23 cs = some (d, p)) (hd : rd r = d) : cs = rc r := by
  subst hd
  obtain ⟨xs, n, _, hx, hl, hxs, hf⟩ := DataW.trod_struct Tryd.underlying23 h
  unfold rd at hx
  simp only [Prod.mk.injEq, DataW.agg.injEq] at hx
  have hl' : xs.length = 4 := hxs
  match xs, hl', hx, hf with
  | [x0, x1, x2, x3], _, hx, hf =>
    simp at hx
    obtain ⟨⟨e0, e1, e2, e3⟩, _⟩ := hx
    have h0 := int_cells (field_of hf 0 3 0 1 x0 rfl cells_int rfl) e0
    have h1 := int_cells (field_of hf 1 3 1 1 x1 rfl cells_int rfl) e1
    have h2 := int_cells (field_of hf 2 3 2 1 x2 rfl cells_int rfl) e2
    have h3 := int_cells (field_of hf 3 3 3 1 x3 rfl cells_int rfl) e3
    rw [cells_rule] at hl
    exact whole hl (cut (cut (cut h0 h1) h2) h3)
theorem zone_cells {fuel : Nat} {cs : List Value} {z : Zon.Z} {d : DataW H} {p : List MemPlace} (h : DataW.trod enc Tryd.prog w base sp held fuel 25 cs = some (d, p)) (hd : zd z = d) : cs = zc z := by
  subst hd
  obtain ⟨xs, n, _, hx, hl, hxs, hf⟩ := DataW.trod_struct Tryd.underlying25 h
  unfold zd at hx
  simp only [Prod.mk.injEq, DataW.agg.injEq] at hx
  have hl' : xs.length = 4 := hxs
  match xs, hl', hx, hf with
  | [x0, x1, x2, x3], _, hx, hf =>
    simp at hx
    obtain ⟨⟨e0, e1, e2, e3⟩, _⟩ := hx
    have h0 := int_cells (field_of hf 0 3 0 1 x0 rfl cells_int rfl) e0
    have h1 := int_cells (field_of hf 1 3 1 1 x1 rfl cells_int rfl) e1
    have h2 := rule_cells (field_of hf 2 23 2 4 x2 rfl cells_rule rfl) e2
    have h3 := rule_cells (field_of hf 3 23 6 4 x3 rfl cells_rule rfl) e3
    rw [cells_zone] at hl
    exact whole hl (cut (cut (cut h0 h1) h2) h3)
theorem entry_cells {fuel : Nat} {cs : List Value} {i : Nat} {d : DataW H} {p : List MemPlace} (h : DataW.trod enc Tryd.prog w base sp held fuel 72 cs = some (d, p)) (hd : ed i = d) : cs = ec i := by
  subst hd
  obtain ⟨xs, n, _, hx, hl, hxs, hf⟩ := DataW.trod_struct Tryd.underlying72 h
  unfold ed at hx
  simp only [Prod.mk.injEq, DataW.agg.injEq] at hx
  have hl' : xs.length = 2 := hxs
  match xs, hl', hx, hf with
  | [x0, x1], _, hx, hf =>
    simp at hx
    obtain ⟨⟨e0, e1⟩, _⟩ := hx
    have h0 := string_cells (field_of hf 0 9 0 1 x0 rfl cells_string rfl) e0
    have h1 := zone_cells (field_of hf 1 25 1 10 x1 rfl cells_zone rfl) e1
    rw [cells_entry] at hl
    exact whole hl (cut h0 h1)
theorem known_cells {fuel : Nat} {cs : List Value} {d : DataW H} {p : List MemPlace} (h : DataW.trod enc Tryd.prog w base sp held fuel 73 cs = some (d, p)) (hd : DataW.agg [ed 0, ed 1, ed 2, ed 3, ed 4, ed 5, ed 6] = d) : cs = KC.toList := by
  subst hd
  obtain ⟨xs, n, _, hx, hl, hxs, hf⟩ := DataW.trod_array Tryd.underlying73 h
  simp only [Prod.mk.injEq, DataW.agg.injEq] at hx
  rw [cells_entry] at hf
  match xs, hxs, hx, hf with
  | [x0, x1, x2, x3, x4, x5, x6], _, hx, hf =>
    simp at hx
    obtain ⟨⟨e0, e1, e2, e3, e4, e5, e6⟩, _⟩ := hx
    have h0 := entry_cells (d := x0.1) (p := x0.2) (hf 0 (by omega)) e0
    have h1 := entry_cells (d := x1.1) (p := x1.2) (hf 1 (by omega)) e1
    have h2 := entry_cells (d := x2.1) (p := x2.2) (hf 2 (by omega)) e2
    have h3 := entry_cells (d := x3.1) (p := x3.2) (hf 3 (by omega)) e3
    have h4 := entry_cells (d := x4.1) (p := x4.2) (hf 4 (by omega)) e4
    have h5 := entry_cells (d := x5.1) (p := x5.2) (hf 5 (by omega)) e5
    have h6 := entry_cells (d := x6.1) (p := x6.2) (hf 6 (by omega)) e6
    rw [cells_known] at hl
    exact whole hl (cut (cut (cut (cut (cut (cut h0 h1) h2) h3) h4) h5) h6)
end

theorem known_global : Tryd.prog.globalNamed "matins/zone.known" = some 0 := by kernel_rfl
theorem known_type : (Tryd.prog.globals[0]?).map (·.type) = some 73 := by kernel_rfl
theorem known_datum : (Rows.laid_matins_zone_known : DataW Unit) = .agg [ed 0, ed 1, ed 2, ed 3, ed 4, ed 5, ed 6] := by kernel_rfl
/-- What the row's condition gives. -/
theorem kn_of_laid {W : World} (h : laidMet Tryd.prog [("matins/zone.known", Rows.laid_matins_zone_known)] W) : Kn W := by
  obtain ⟨ps, ⟨g, t, cs, fuel, p, q, hg, ht, hvar, hd, _, _⟩, _⟩ := h
  obtain rfl := Option.some.inj (known_global.symm.trans hg)
  obtain rfl := Option.some.inj (known_type.symm.trans ht)
  have e := known_cells hd known_datum.symm
  have e2 : cs = KC := by
    cases cs
    rw [show KC = KC.toList.toArray by simp, ← e]
  unfold World.var? at hvar
  rw [known_global] at hvar
  simp only [Option.bind_some] at hvar
  subst e2
  unfold Kn
  split at hvar
  · rename_i c t' fr hh
    simp at hvar
    subst hvar
    exact ⟨_, _, hh⟩
  · cases hvar
end Go.Proofs.YtlnafkcoicaefaaDoor
