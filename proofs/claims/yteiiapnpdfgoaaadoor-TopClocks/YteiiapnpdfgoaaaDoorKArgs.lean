/- What the row's own conditions give, and how an expression and a minute that came in are read. -/
import Derived.Test.YteiiapnpdfgoaaaDoorKWhole
import Derived.Test.YteiiapnpdfgoaaaDoorKCheck
import Derived.LaidLaws
import Derived.ChangeArms
import Derived.OpenShut
import Derived.Shelf.LaysM
namespace Go.Proofs.YteiiapnpdfgoaaaDoor
open Go.ChangeShapes Go.WideShapes Go.ChangeAt Go.RowKit
set_option linter.unusedVariables false
set_option maxRecDepth 100000

theorem cells_int : Tryd.prog.cellsOf 3 = 1 := by kernel_rfl
theorem cells_u64 : Tryd.prog.cellsOf 22 = 1 := by kernel_rfl
theorem cells_bool : Tryd.prog.cellsOf 4 = 1 := by kernel_rfl
theorem cells_span : Tryd.prog.cellsOf 59 = 3 := by kernel_rfl
theorem cells_spans : Tryd.prog.cellsOf 60 = 15 := by kernel_rfl
theorem cells_cron : Tryd.prog.cellsOf 24 = 7 := by kernel_rfl
theorem cells_civil : Tryd.prog.cellsOf 44 = 6 := by kernel_rfl

section
variable {H : Type} {enc : TypeId × Value → H} {w : World} {base : Nat} {sp : Nat → Bool} {held : Bool}
theorem cut {cs A B : List Value} {i n : Nat} (hA : cs.take i = A) (hB : (cs.drop i).take n = B) : cs.take (i + n) = A ++ B := by
  rw [List.take_add, hA, hB]
theorem whole {cs A : List Value} {n : Nat} (hl : cs.length = n) (hA : cs.take n = A) : cs = A := by rw [← hA, ← hl, List.take_length]
theorem field_of {fs : Array Field} {xs : List (DataW H × List MemPlace)} {n : Nat} {cs : List Value} (hf : ∀ (i : Nat) (f : Field), fs[i]? = some f → DataW.trod enc Tryd.prog w base sp held n f.type ((cs.drop f.offset).take (Tryd.prog.cellsOf f.type)) = xs[i]?)
    (i : Nat) (t : TypeId) (off k : Nat) (x : DataW H × List MemPlace) (hfi : (fs[i]?).map (fun f => (f.type, f.offset)) = some (t, off)) (hk : Tryd.prog.cellsOf t = k) (hx : xs[i]? = some x) : DataW.trod enc Tryd.prog w base sp held n t ((cs.drop off).take k) = some (x.1, x.2) := by
  obtain ⟨f, h1, h2⟩ := Option.map_eq_some_iff.mp hfi
  simp only [Prod.mk.injEq] at h2
  obtain ⟨rfl, rfl⟩ := h2
  subst hk
  rw [hf i f h1, hx]
theorem int_cells {fuel : Nat} {cs : List Value} {a : Int} {d : DataW H} {p : List MemPlace} (h : DataW.trod enc Tryd.prog w base sp held fuel 3 cs = some (d, p)) (hd : DataW.lit (.int .i64 a) = d) : cs = [.int .i64 a] := by
  subst hd
  obtain ⟨n, rfl, e, _⟩ := DataW.trod_int Tryd.underlying3 h
  simp at e
  rw [e.1]
theorem any_int {fuel : Nat} {cs : List Value} {d : DataW H} {p : List MemPlace} (h : DataW.trod enc Tryd.prog w base sp held fuel 3 cs = some (d, p)) : ∃ a, cs = [.int .i64 a] := by
  obtain ⟨n, rfl, _, _⟩ := DataW.trod_int Tryd.underlying3 h
  exact ⟨n, rfl⟩
theorem any_u64 {fuel : Nat} {cs : List Value} {d : DataW H} {p : List MemPlace} (h : DataW.trod enc Tryd.prog w base sp held fuel 22 cs = some (d, p)) : ∃ a : Nat, cs = [.int .u64 a] ∧ a < 18446744073709551616 := by
  obtain ⟨n, rfl, _, hw⟩ := DataW.trod_int Tryd.underlying22 h
  have hw' : IntKind.u64.min ≤ n ∧ n ≤ IntKind.u64.max := by simpa [Lit.wf] using hw
  have e1 : IntKind.u64.min = 0 := by decide
  have e2 : IntKind.u64.max = 18446744073709551615 := by decide
  have : 0 ≤ n ∧ n < 18446744073709551616 := by omega
  exact ⟨n.toNat, by rw [Int.toNat_of_nonneg this.1], by omega⟩
theorem any_bool {fuel : Nat} {cs : List Value} {d : DataW H} {p : List MemPlace} (h : DataW.trod enc Tryd.prog w base sp held fuel 4 cs = some (d, p)) : ∃ a, cs = [.bool a] := by
  obtain ⟨n, rfl, _⟩ := DataW.trod_bool Tryd.underlying4 h
  exact ⟨n, rfl⟩
def spd (f : Cro.Sp) : DataW H := .agg [.lit (.int .i64 f.lo), .lit (.int .i64 f.hi), .lit (.int .i64 f.last)]
def spc (f : Cro.Sp) : List Value := [.int .i64 f.lo] ++ [.int .i64 f.hi] ++ [.int .i64 f.last]
theorem span_cells {fuel : Nat} {cs : List Value} {f : Cro.Sp} {d : DataW H} {p : List MemPlace} (h : DataW.trod enc Tryd.prog w base sp held fuel 59 cs = some (d, p)) (hd : spd f = d) : cs = spc f := by
  subst hd
  obtain ⟨xs, n, _, hx, hl, hxs, hf⟩ := DataW.trod_struct Tryd.underlying59 h
  unfold spd at hx
  simp only [Prod.mk.injEq, DataW.agg.injEq] at hx
  have hl' : xs.length = 3 := hxs
  match xs, hl', hx, hf with
  | [x0, x1, x2], _, hx, hf =>
    simp at hx
    obtain ⟨⟨e0, e1, e2⟩, _⟩ := hx
    have h0 := int_cells (field_of hf 0 3 0 1 x0 rfl cells_int rfl) e0
    have h1 := int_cells (field_of hf 1 3 1 1 x1 rfl cells_int rfl) e1
    have h2 := int_cells (field_of hf 2 3 2 1 x2 rfl cells_int rfl) e2
    rw [cells_span] at hl
    exact whole hl (cut (cut h0 h1) h2)
theorem spans_cells {fuel : Nat} {cs : List Value} {d : DataW H} {p : List MemPlace} (h : DataW.trod enc Tryd.prog w base sp held fuel 60 cs = some (d, p)) (hd : DataW.agg [spd (Cro.sp 0), spd (Cro.sp 1), spd (Cro.sp 2), spd (Cro.sp 3), spd (Cro.sp 4)] = d) : cs = spc (Cro.sp 0) ++ spc (Cro.sp 1) ++ spc (Cro.sp 2) ++ spc (Cro.sp 3) ++ spc (Cro.sp 4) := by
  subst hd
  obtain ⟨xs, n, _, hx, hl, hxs, hf⟩ := DataW.trod_array Tryd.underlying60 h
  simp only [Prod.mk.injEq, DataW.agg.injEq] at hx
  rw [cells_span] at hf
  match xs, hxs, hx, hf with
  | [x0, x1, x2, x3, x4], _, hx, hf =>
    simp at hx
    obtain ⟨⟨e0, e1, e2, e3, e4⟩, _⟩ := hx
    have h0 := span_cells (d := x0.1) (p := x0.2) (hf 0 (by omega)) e0
    have h1 := span_cells (d := x1.1) (p := x1.2) (hf 1 (by omega)) e1
    have h2 := span_cells (d := x2.1) (p := x2.2) (hf 2 (by omega)) e2
    have h3 := span_cells (d := x3.1) (p := x3.2) (hf 3 (by omega)) e3
    have h4 := span_cells (d := x4.1) (p := x4.2) (hf 4 (by omega)) e4
    rw [cells_spans] at hl
    exact whole hl (cut (cut (cut (cut h0 h1) h2) h3) h4)
def crc7 (c : Cro.C) : List Value := [.int .u64 c.mi] ++ [.int .u64 c.ho] ++ [.int .u64 c.da] ++ [.int .u64 c.mo] ++ [.int .u64 c.we] ++ [.bool c.ad] ++ [.bool c.aw]
theorem any_cron {fuel : Nat} {cs : List Value} {d : DataW H} {p : List MemPlace} (h : DataW.trod enc Tryd.prog w base sp held fuel 24 cs = some (d, p)) : ∃ c : Cro.C, cs = crc7 c ∧ c.ok := by
  obtain ⟨xs, n, _, hx, hl, hxs, hf⟩ := DataW.trod_struct Tryd.underlying24 h
  have hl' : xs.length = 7 := hxs
  match xs, hl', hf with
  | [x0, x1, x2, x3, x4, x5, x6], _, hf =>
    obtain ⟨a0, h0, b0⟩ := any_u64 (field_of hf 0 22 0 1 x0 rfl cells_u64 rfl)
    obtain ⟨a1, h1, b1⟩ := any_u64 (field_of hf 1 22 1 1 x1 rfl cells_u64 rfl)
    obtain ⟨a2, h2, b2⟩ := any_u64 (field_of hf 2 22 2 1 x2 rfl cells_u64 rfl)
    obtain ⟨a3, h3, b3⟩ := any_u64 (field_of hf 3 22 3 1 x3 rfl cells_u64 rfl)
    obtain ⟨a4, h4, b4⟩ := any_u64 (field_of hf 4 22 4 1 x4 rfl cells_u64 rfl)
    obtain ⟨a5, h5⟩ := any_bool (field_of hf 5 4 5 1 x5 rfl cells_bool rfl)
    obtain ⟨a6, h6⟩ := any_bool (field_of hf 6 4 6 1 x6 rfl cells_bool rfl)
    rw [cells_cron] at hl
    exact ⟨⟨a0, a1, a2, a3, a4, a5, a6⟩, whole hl (cut (cut (cut (cut (cut (cut h0 h1) h2) h3) h4) h5) h6), ⟨b0, b1, b2, b3, b4⟩⟩
def civ6 (y m d h n k : Int) : List Value := [.int .i64 y] ++ [.int .i64 m] ++ [.int .i64 d] ++ [.int .i64 h] ++ [.int .i64 n] ++ [.int .i64 k]
theorem any_civil {fuel : Nat} {cs : List Value} {d : DataW H} {p : List MemPlace} (h : DataW.trod enc Tryd.prog w base sp held fuel 44 cs = some (d, p)) : ∃ y m d h n k, cs = civ6 y m d h n k := by
  obtain ⟨xs, n, _, hx, hl, hxs, hf⟩ := DataW.trod_struct Tryd.underlying44 h
  have hl' : xs.length = 6 := hxs
  match xs, hl', hf with
  | [x0, x1, x2, x3, x4, x5], _, hf =>
    obtain ⟨a0, h0⟩ := any_int (field_of hf 0 3 0 1 x0 rfl cells_int rfl)
    obtain ⟨a1, h1⟩ := any_int (field_of hf 1 3 1 1 x1 rfl cells_int rfl)
    obtain ⟨a2, h2⟩ := any_int (field_of hf 2 3 2 1 x2 rfl cells_int rfl)
    obtain ⟨a3, h3⟩ := any_int (field_of hf 3 3 3 1 x3 rfl cells_int rfl)
    obtain ⟨a4, h4⟩ := any_int (field_of hf 4 3 4 1 x4 rfl cells_int rfl)
    obtain ⟨a5, h5⟩ := any_int (field_of hf 5 3 5 1 x5 rfl cells_int rfl)
    rw [cells_civil] at hl
    exact ⟨a0, a1, a2, a3, a4, a5, whole hl (cut (cut (cut (cut (cut h0 h1) h2) h3) h4) h5)⟩
end
/-- An expression, a minute that came in. -/
theorem open_cron {H : Type} {enc : TypeId × Value → H} {W : World} {r : Reach} {base : Nat} {v : Value} {d : DataW H} {p : List MemPlace}
    (hv : Value.okWide Tryd.prog W r base 24 v) (h : DataW.Trod enc Tryd.prog W 0 (fun _ => true) true 24 v d p) : ∃ c : Cro.C, v = crv c ∧ c.ok := by
  obtain ⟨cs, rfl, _⟩ := okWide_struct Tryd.underlying24 hv
  obtain ⟨fuel, hf⟩ := h
  obtain ⟨c, hz, hc⟩ := any_cron hf
  refine ⟨c, ?_, hc⟩
  have : cs.toList = crc7 c := hz
  cases cs
  simp at this
  subst this
  rfl
theorem open_civil {H : Type} {enc : TypeId × Value → H} {W : World} {r : Reach} {base : Nat} {v : Value} {d : DataW H} {p : List MemPlace}
    (hv : Value.okWide Tryd.prog W r base 44 v) (h : DataW.Trod enc Tryd.prog W 0 (fun _ => true) true 44 v d p) : ∃ y m d h n k, v = civ y m d h n k := by
  obtain ⟨cs, rfl, _⟩ := okWide_struct Tryd.underlying44 hv
  obtain ⟨fuel, hf⟩ := h
  obtain ⟨y, m, d', h', n, k, hz⟩ := any_civil hf
  refine ⟨y, m, d', h', n, k, ?_⟩
  have : cs.toList = civ6 y m d' h' n k := hz
  cases cs
  simp at this
  subst this
  rfl

theorem spans_global : Tryd.prog.globalNamed "matins/cron.spans" = some 0 := by kernel_rfl
theorem spans_type : (Tryd.prog.globals[0]?).map (·.type) = some 60 := by kernel_rfl
theorem spans_datum : (Rows.laid_matins_cron_spans : DataW Unit) = .agg [spd (Cro.sp 0), spd (Cro.sp 1), spd (Cro.sp 2), spd (Cro.sp 3), spd (Cro.sp 4)] := by kernel_rfl
theorem laid_sub {P : Program} {w : World} : ∀ {l : List (String × DataW Unit)} {ps : List MemPlace}, DataW.LaidVars P w l ps → ∀ n d, (n, d) ∈ l → ∃ g t cs fuel p, P.globalNamed n = some g ∧ (P.globals[g]?).map (·.type) = some t ∧ w.var? P n = some cs ∧ DataW.trod (fun _ => ()) P w 0 (fun _ => true) false fuel t cs.toList = some (d, p)
  | [], _, _, n, d, hm => by cases hm
  | (n0, d0) :: r, ps, h, n, d, hm => by
    obtain ⟨g, t, cs, fuel, p, q, hg, ht, hv, hd, hr, _⟩ := h
    rcases List.mem_cons.mp hm with e | hm
    · injection e with e1 e2
      subst e1 e2
      exact ⟨g, t, cs, fuel, p, hg, ht, hv, hd⟩
    · exact laid_sub hr n d hm
theorem sg_of_laid {W : World} {l : List (String × DataW Unit)} (h : laidMet Tryd.prog l W) (hm : ("matins/cron.spans", Rows.laid_matins_cron_spans) ∈ l) : Sg W := by
  obtain ⟨ps, hl, _⟩ := h
  obtain ⟨g, t, cs, fuel, p, hg, ht, hvar, hd⟩ := laid_sub hl _ _ hm
  obtain rfl := Option.some.inj (spans_global.symm.trans hg)
  obtain rfl := Option.some.inj (spans_type.symm.trans ht)
  have e := spans_cells hd spans_datum.symm
  unfold World.var? at hvar
  rw [spans_global] at hvar
  simp only [Option.bind_some] at hvar
  split at hvar
  · rename_i c t' fr hh
    simp at hvar
    subst hvar
    have hc : ∀ i v, c.toList[i]? = some v → W.cell? ⟨0, i, none⟩ = some v := fun i v hv => by
      unfold World.cell?
      simp only [hh]
      simpa using hv
    rw [e] at hc
    intro i hi
    match i, hi with
    | 0, _ => exact ⟨hc 0 _ rfl, hc 1 _ rfl, hc 2 _ rfl⟩
    | 1, _ => exact ⟨hc 3 _ rfl, hc 4 _ rfl, hc 5 _ rfl⟩
    | 2, _ => exact ⟨hc 6 _ rfl, hc 7 _ rfl, hc 8 _ rfl⟩
    | 3, _ => exact ⟨hc 9 _ rfl, hc 10 _ rfl, hc 11 _ rfl⟩
    | 4, _ => exact ⟨hc 12 _ rfl, hc 13 _ rfl, hc 14 _ rfl⟩
  · cases hvar
theorem mx_of_shape {W : World} (h : W.ShapedOpen Tryd.prog) : Mx W :=
  Go.Proofs.cell_of_shapedOpen_int (zero := #[.int .i64 0]) (t := 3) h (of_decide_eq_true (by kernel_rfl)) (by kernel_rfl) rfl (by kernel_rfl) (by kernel_rfl) Tryd.underlying3
theorem gl_of {W : World} {l : List (String × DataW Unit)} (h : laidMet Tryd.prog l W) (hm : ("matins/cron.spans", Rows.laid_matins_cron_spans) ∈ l) (hs : W.ShapedOpen Tryd.prog) : Gl W := ⟨mx_of_shape hs, sg_of_laid h hm⟩
end Go.Proofs.YteiiapnpdfgoaaaDoor
