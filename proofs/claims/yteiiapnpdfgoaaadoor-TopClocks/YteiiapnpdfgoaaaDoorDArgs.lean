/- How an expression, a zone's rules and a slice of numbers that came in are read; what the row's own conditions give. -/
import Derived.Test.YteiiapnpdfgoaaaDoorKArgs
import Derived.Test.YteiiapnpdfgoaaaDoorDGap
import Derived.Test.YteiiapnpdfgoaaaDoorZMake
import Derived.Test.YteiiapnpdfgoaaaDoorVArgs
import Derived.Deep.Strs
namespace Go.Proofs.YteiiapnpdfgoaaaDoor
open Go.ChangeShapes Go.WideShapes Go.ChangeAt Go.RowKit
set_option linter.unusedVariables false
set_option maxRecDepth 100000

theorem cells_rule : Tryd.prog.cellsOf 31 = 4 := by kernel_rfl
theorem cells_zone : Tryd.prog.cellsOf 33 = 10 := by kernel_rfl
def rc (r : Zon.R) : List Value := [.int .i64 r.m, .int .i64 r.k, .int .i64 r.d, .int .i64 r.a]
def zc (z : Zon.Z) : List Value := [.int .i64 z.b] ++ [.int .i64 z.s] ++ rc z.on ++ rc z.off
section
variable {H : Type} {enc : TypeId × Value → H} {w : World} {base : Nat} {sp : Nat → Bool} {held : Bool}
theorem any_rule {fuel : Nat} {cs : List Value} {d : DataW H} {p : List MemPlace} (h : DataW.trod enc Tryd.prog w base sp held fuel 31 cs = some (d, p)) : ∃ r, cs = rc r := by
  obtain ⟨xs, n, _, hx, hl, hxs, hf⟩ := DataW.trod_struct Tryd.underlying31 h
  have hl' : xs.length = 4 := hxs
  match xs, hl', hf with
  | [x0, x1, x2, x3], _, hf =>
    obtain ⟨a0, h0⟩ := any_int (field_of hf 0 3 0 1 x0 rfl cells_int rfl)
    obtain ⟨a1, h1⟩ := any_int (field_of hf 1 3 1 1 x1 rfl cells_int rfl)
    obtain ⟨a2, h2⟩ := any_int (field_of hf 2 3 2 1 x2 rfl cells_int rfl)
    obtain ⟨a3, h3⟩ := any_int (field_of hf 3 3 3 1 x3 rfl cells_int rfl)
    rw [cells_rule] at hl
    exact ⟨⟨a0, a1, a2, a3⟩, whole hl (cut (cut (cut h0 h1) h2) h3)⟩
theorem any_zone {fuel : Nat} {cs : List Value} {d : DataW H} {p : List MemPlace} (h : DataW.trod enc Tryd.prog w base sp held fuel 33 cs = some (d, p)) : ∃ z, cs = zc z := by
  obtain ⟨xs, n, _, hx, hl, hxs, hf⟩ := DataW.trod_struct Tryd.underlying33 h
  have hl' : xs.length = 4 := hxs
  match xs, hl', hf with
  | [x0, x1, x2, x3], _, hf =>
    obtain ⟨a0, h0⟩ := any_int (field_of hf 0 3 0 1 x0 rfl cells_int rfl)
    obtain ⟨a1, h1⟩ := any_int (field_of hf 1 3 1 1 x1 rfl cells_int rfl)
    obtain ⟨r2, h2⟩ := any_rule (field_of hf 2 31 2 4 x2 rfl cells_rule rfl)
    obtain ⟨r3, h3⟩ := any_rule (field_of hf 3 31 6 4 x3 rfl cells_rule rfl)
    rw [cells_zone] at hl
    exact ⟨⟨a0, a1, r2, r3⟩, whole hl (cut (cut (cut h0 h1) h2) h3)⟩
end
/-- A zone's rules that came in. -/
theorem open_zone {H : Type} {enc : TypeId × Value → H} {W : World} {r : Reach} {base : Nat} {v : Value} {d : DataW H} {p : List MemPlace}
    (hv : Value.okWide Tryd.prog W r base 33 v) (h : DataW.Trod enc Tryd.prog W 0 (fun _ => true) true 33 v d p) : ∃ z, v = zon z := by
  obtain ⟨cs, rfl, _⟩ := okWide_struct Tryd.underlying33 hv
  obtain ⟨fuel, hf⟩ := h
  obtain ⟨z, hz⟩ := any_zone hf
  refine ⟨z, ?_⟩
  have : cs.toList = zc z := hz
  cases cs
  simp at this
  subst this
  rfl
/-- Each of the first n elements is a number. -/
def Si (w : World) (a : Option Addr) (n : Nat) : Prop := ∀ i, i < n → ∃ b off z, a = some ⟨b, off, none⟩ ∧ w.cell? ⟨b, off + i, none⟩ = some (.int .i64 z) ∧ -9223372036854775808 ≤ z ∧ z ≤ 9223372036854775807
theorem Si.kept {w w' : World} {a : Option Addr} {n : Nat} (h : Si w a n) (g : w.grownBy w' none) : Si w' a n := fun i hi => by
  obtain ⟨b, off, z, e, hc, hz⟩ := h i hi
  exact ⟨b, off, z, e, g.cell hc (by simp), hz⟩
theorem open_si {H : Type} {enc : TypeId × Value → H} {W : World} {r : Reach} {base : Nat} {v : Value} {d : DataW H} {p : List MemPlace}
    (hv : Value.okWide Tryd.prog W r base 40 v) (h : DataW.Trod enc Tryd.prog W 0 (fun _ => true) true 40 v d p) :
    ∃ a n c, v = .slice a n c ∧ Si W a n ∧ n ≤ 9223372036854775807 := by
  obtain ⟨a, len, cap, rfl⟩ := okWide_slice Tryd.underlying40 hv
  obtain ⟨fuel, hf⟩ := h
  rcases open_ints Tryd.underlying40 Tryd.underlying2 (by kernel_rfl) hf with ⟨hcs, hx⟩ | ⟨x, l, c, zs, hcs, _, hl, hm, hz, hx, hcell, hwz⟩
  · simp [Value.cells] at hcs
    obtain ⟨rfl, rfl, rfl⟩ := hcs
    exact ⟨none, 0, 0, rfl, fun i hi => by omega, by omega⟩
  · simp [Value.cells] at hcs
    obtain ⟨rfl, rfl, rfl⟩ := hcs
    have hm' : cap ≤ 9223372036854775807 := hm
    have hz' : zs.length = cap := by simpa using hz
    refine ⟨some x, len, cap, rfl, fun i hi => ?_, by omega⟩
    obtain ⟨b, off, rfl, hc⟩ := ints_at hcell (by omega)
    have hi' : i < zs.length := by omega
    refine ⟨b, off, zs.getD i 0, rfl, hc i (by omega), ?_⟩
    have := in64_of (hwz (zs.getD i 0) (by rw [List.getD_eq_getElem?_getD, List.getElem?_eq_getElem hi']; exact List.getElem_mem hi'))
    omega
theorem cells_u8 : Tryd.prog.cellsOf 5 = 1 := by kernel_rfl
theorem cells_tab : Tryd.prog.cellsOf 130 = 64 := by kernel_rfl
theorem tab_global : Tryd.prog.globalNamed "math/bits.deBruijn64tab" = some 1 := by kernel_rfl
theorem tab_type : (Tryd.prog.globals[1]?).map (·.type) = some 130 := by kernel_rfl
theorem tab_datum : (Rows.laid_math_bits_deBruijn64tab : DataW Unit) = .agg (Lib.deBruijn64tab.map fun n => .lit (.int .u8 (n : Nat))) := by kernel_rfl
theorem tb_of_laid {W : World} {l : List (String × DataW Unit)} (h : laidMet Tryd.prog l W) (hm : ("math/bits.deBruijn64tab", Rows.laid_math_bits_deBruijn64tab) ∈ l) : Tb W := by
  obtain ⟨ps, hl, _⟩ := h
  obtain ⟨g, t, cs, fuel, p, hg, ht, hvar, hd⟩ := laid_sub hl _ _ hm
  obtain rfl := Option.some.inj (tab_global.symm.trans hg)
  obtain rfl := Option.some.inj (tab_type.symm.trans ht)
  rw [tab_datum] at hd
  obtain ⟨xs, n, _, hx, hlen, hxs, hf⟩ := DataW.trod_array Tryd.underlying130 hd
  simp only [Prod.mk.injEq, DataW.agg.injEq] at hx
  have e : ∀ j, j < 64 → cs[j]? = some (.int .u8 (Lib.deBruijn64tab.getD j 0)) := fun j hj => by
    have hfj := hf j hj
    have hxj : xs[j]? = some (xs.getD j (.nil, [])) := by
      have : j < xs.length := by rw [hxs]; exact hj
      rw [List.getD_eq_getElem?_getD, List.getElem?_eq_getElem this]
      rfl
    have hdj : (xs.getD j (.nil, [])).1 = .lit (.int .u8 ((Lib.deBruijn64tab.getD j 0 : Nat) : Int)) := by
      have h1 := congrArg (fun l => l[j]?) hx.1
      simp only [List.getElem?_map] at h1
      rw [hxj] at h1
      have hb : j < Lib.deBruijn64tab.length := hj
      rw [List.getElem?_eq_getElem hb] at h1
      simp only [Option.map_some] at h1
      injection h1 with h1
      rw [← h1, List.getD_eq_getElem?_getD, List.getElem?_eq_getElem hb]
      rfl
    rw [hxj, cells_u8] at hfj
    obtain ⟨m, hc, hm', _⟩ := DataW.trod_int Tryd.underlying5 hfj
    rw [hm'] at hdj
    injection hdj with hdj
    injection hdj with _ hdj
    have := congrArg (fun l => l[0]?) hc
    simp at this
    rw [← hdj]
    simpa using this
  unfold World.var? at hvar
  rw [tab_global] at hvar
  simp only [Option.bind_some] at hvar
  split at hvar
  · rename_i c t' fr hh
    simp at hvar
    subst hvar
    intro j hj
    unfold World.cell?
    simp only [hh]
    simpa using e j hj
  · cases hvar
theorem gd_of {W : World} {l : List (String × DataW Unit)} (h : laidMet Tryd.prog l W) (hm : ("matins/cron.spans", Rows.laid_matins_cron_spans) ∈ l ∧ ("math/bits.deBruijn64tab", Rows.laid_math_bits_deBruijn64tab) ∈ l) (hs : W.ShapedOpen Tryd.prog) : Gd W := ⟨gl_of h hm.1 hs, tb_of_laid h hm.2⟩
end Go.Proofs.YteiiapnpdfgoaaaDoor
