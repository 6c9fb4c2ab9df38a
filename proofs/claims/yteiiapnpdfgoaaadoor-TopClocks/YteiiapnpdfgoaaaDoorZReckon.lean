/- What 'reckon' leaves. -/
import Derived.Test.YteiiapnpdfgoaaaDoorZMoment
import Derived.Deep.RegionLaw
import Derived.Deep.DeepAppendRoom
import Derived.Laws.OwnMore
import Derived.Laws.MakeOwn
import Derived.Deep.Cut
import Derived.Deep.CutBlock
import Derived.Deep.CutRange
import Derived.Deep.DeepCutAuto
namespace Go.Proofs.YteiiapnpdfgoaaaDoor
open Go.RowKit
set_option linter.unusedVariables false

theorem step_of {ops : Array Oper} {o : Oper} {a : Act} {w : World} {K : Act → World → Prop} {Q : Exit → Act → World → Prop} {E : Prop} (hg : o.guard = none) (h : o.wp Tryd.prog a w K Q) :
    if Region.wanted o (yielded ops a.tmps) = true then o.wp Tryd.prog a w K Q else E := by
  rw [if_pos (by simp [Region.wanted, hg])]
  exact h
theorem info_parts {P : Program} {t : TypeId} {z : Option Value} {s b : Nat} (h : (P.info? t).map (fun i => (i.zero, i.size, i.bytes)) = some (z, s, b)) : ∃ i, P.info? t = some i ∧ i.zero = z ∧ i.size = s ∧ i.bytes = b := by
  obtain ⟨i, hi, e⟩ := Option.map_eq_some_iff.mp h
  simp only [Prod.mk.injEq] at e
  exact ⟨i, hi, e.1, e.2.1, e.2.2⟩
theorem info_i64 : (Tryd.prog.info? 2).map (fun i => (i.zero, i.size, i.bytes)) = some (some (.int .i64 0), 1, 8) := by kernel_rfl

/-- A rule in memory. -/
structure RuleAt (w : World) (b : Nat) (r : Zon.R) : Prop where
  c0 : w.cell? ⟨b, 0, none⟩ = some (.int .i64 r.m)
  c1 : w.cell? ⟨b, 1, none⟩ = some (.int .i64 r.k)
  c2 : w.cell? ⟨b, 2, none⟩ = some (.int .i64 r.d)
  c3 : w.cell? ⟨b, 3, none⟩ = some (.int .i64 r.a)
theorem RuleAt.kept {w w' : World} {b : Nat} {r : Zon.R} {row : Option Nat} (h : RuleAt w b r) (g : w.grownBy w' row) (hne : some b ≠ row) : RuleAt w' b r :=
  ⟨g.cell h.c0 hne, g.cell h.c1 hne, g.cell h.c2 hne, g.cell h.c3 hne⟩

/-- The first 2 n turns. -/
def tl (z : Zon.Z) (n : Nat) : List Value := (List.range (2 * n)).map fun i => .int .i64 (Zon.T z i)

theorem tl_succ (z : Zon.Z) (n : Nat) : tl z (n + 1) = tl z n ++ [.int .i64 (Zon.mom z.fst (1970 + n)), .int .i64 (Zon.mom z.snd (1970 + n))] := by
  unfold tl
  rw [show 2 * (n + 1) = 2 * n + 1 + 1 by omega, List.range_succ, List.range_succ]
  simp [Zon.T_even, Zon.T_odd]
theorem make_860 : ∃ M : Array Value, M.size = 860 ∧ ∀ w, (Instr.makeSlice 40 (.int .i64 0) (.int .i64 860)).run Tryd.prog w = .ok (.slice (some ⟨w.heap.size, 0, none⟩) 0 860) (w.alloc (.cells M 2)) := by
  obtain ⟨i, hi, hz0, hz1, hz2⟩ := info_parts info_i64
  refine ⟨madeCells (Value.int .i64 0).cells (860 * i.size), by rw [size_madeCells, hz1], fun w => ?_⟩
  exact run_makeSlice w 40 2 i (.int .i64 0) Tryd.underlying40 hi hz0 .i64 .i64 0 860 (by omega) (by omega) (by rw [hz1]; decide) (by rw [hz2]; decide) (by decide)

/-- The turns of the first n years are told. -/
structure Rk (w wr : World) (b B1 B2 q : Nat) (z : Zon.Z) (n : Nat) : Prop where
  grown : w.grownBy wr (some b)
  one : RuleAt wr B1 z.fst
  two : RuleAt wr B2 z.snd
  head : ∀ i, i < 13 → wr.cell? ⟨b, i, none⟩ = w.cell? ⟨b, i, none⟩
  free : ∀ i, wr.frozen? ⟨b, i, none⟩ = false
  own : wr.ownsRow (w.heap.size + 2) 2 1 (.slice (some ⟨q, 0, none⟩) (2 * n) 860) (2 * n) (tl z n)
  turns : wr.cell? ⟨b, 13, none⟩ = some (.slice (some ⟨q, 0, none⟩) (2 * n) 860)

theorem frozen_grown {w w' : World} {row : Option Nat} (g : w.grownBy w' row) {a : Addr} (ha : a.block < w.heap.size) (hne : some a.block ≠ row) : w'.frozen? a = w.frozen? a :=
  World.frozen?_of_block (g.block a.block ha hne)
theorem cell_grown {w w' : World} {row : Option Nat} (g : w.grownBy w' row) {a : Addr} (ha : a.block < w.heap.size) (hne : some a.block ≠ row) : w'.cell? a = w.cell? a := by
  unfold World.cell?
  rw [g.block a.block ha hne]

theorem Rk.step {w wr w2 w3 : World} {b B1 B2 q : Nat} {z : Zon.Z} {n : Nat} (h : Rk w wr b B1 B2 q z n) (hb : b < w.heap.size) (hB1 : w.heap.size ≤ B1) (hB2 : w.heap.size ≤ B2) (hB1' : B1 < w.heap.size + 2) (hB2' : B2 < w.heap.size + 2) (x : Obj)
    (g2 : wr.grownBy w2 none) (g3 : (w2.alloc x).grownBy w3 (some q))
    (o3 : w3.ownsRow (w.heap.size + 2) 2 1 (.slice (some ⟨q, 0, none⟩) (2 * n + 2) 860) (2 * n + 2) (tl z n ++ [.int .i64 (Zon.mom z.fst (1970 + n)), .int .i64 (Zon.mom z.snd (1970 + n))])) :
    Rk w (w3.setCell ⟨b, 13, none⟩ (.slice (some ⟨q, 0, none⟩) (2 * n + 2) 860)) b B1 B2 q z (n + 1) := by
  have hq := (h.own.lt q rfl)
  have g4 : wr.grownBy w3 (some q) := grown_more (grown_more (grown_refl wr (some q)) (grown_alloc g2 x) (by simp)) g3 (by simp)
  have hbr : b < wr.heap.size := by have := h.grown.size; omega
  have g5 := grown_set w3 ⟨b, 13, none⟩ (.slice (some ⟨q, 0, none⟩) (2 * n + 2) 860)
  have hbq : some b ≠ some q := by simp; omega
  refine ⟨?_, ?_, ?_, ?_, ?_, ?_, ?_⟩
  · refine grown_more (grown_more h.grown g4 (fun k e => ?_)) g5 (by simp)
    injection e with e
    exact .inr (by omega)
  · exact (h.one.kept g4 (by simp; omega)).kept g5 (by simp; omega)
  · exact (h.two.kept g4 (by simp; omega)).kept g5 (by simp; omega)
  · intro i hi
    rw [World.cell?_setCell_other _ _ _ _ (fun e => by injection e; omega), cell_grown g4 (a := ⟨b, i, none⟩) hbr hbq]
    exact h.head i hi
  · intro i
    rw [World.frozen?_setCell, frozen_grown g4 (a := ⟨b, i, none⟩) hbr hbq]
    exact h.free i
  · rw [tl_succ, show 2 * (n + 1) = 2 * n + 2 by omega]
    exact o3.kept g5 (.inr (by simp [Value.ownBlock]; omega))
  · rw [show 2 * (n + 1) = 2 * n + 2 by omega]
    exact World.cell?_setCell_same _ _ _ ((cell_grown g4 (a := ⟨b, 13, none⟩) hbr hbq).trans h.turns)
theorem RuleAt.drew {w : World} {b : Nat} {r : Zon.R} (h : RuleAt w b r) : RuleAt w.drew b r := ⟨h.c0, h.c1, h.c2, h.c3⟩
theorem Rk.drew {w wr : World} {b B1 B2 q : Nat} {z : Zon.Z} {n : Nat} (h : Rk w wr b B1 B2 q z n) : Rk w wr.drew b B1 B2 q z n :=
  ⟨⟨h.grown.os, h.grown.tape, h.grown.output, h.grown.size, h.grown.block⟩, h.one.drew, h.two.drew, h.head, h.free, h.own, h.turns⟩

theorem two_cells (w : World) (x y : Value) (t : TypeId) : ∀ j u, [x, y][j]? = some u → (w.alloc (.cells #[x, y] t)).cell? ((⟨w.heap.size, 0, none⟩ : Addr).add j) = some u := by
  intro j u h
  rw [Addr.add_lit, World.cell?_alloc_new]
  simpa using h
theorem one_cells (x y : Int) : ∀ u ∈ [Value.int .i64 x, Value.int .i64 y], u.oneCell' = true := by
  intro u h
  simp at h
  rcases h with rfl | rfl <;> rfl
theorem cell_alloc {w : World} {a : Addr} {v : Value} (h : w.cell? a = some v) (o : Obj) : (w.alloc o).cell? a = some v := (World.grownBy_alloc w o none).cell h (by simp)
theorem frozen_none {w w' : World} {a : Addr} {v : Value} (g : w.grownBy w' none) (h : w.cell? a = some v) (f : w.frozen? a = false) : w'.frozen? a = false :=
  (frozen_grown g (World.block_lt_of_cell? w _ h) (by simp)).trans f
theorem frozen_of {w w' : World} {a : Addr} {v : Value} {o : Obj} {row : Option Nat} (g : (w.alloc o).grownBy w' row) (h : w.cell? a = some v) (f : w.frozen? a = false) (hne : some a.block ≠ row) : w'.frozen? a = false :=
  (frozen_grown g (World.block_lt_of_cell? _ _ (cell_alloc h o)) hne).trans (frozen_none (World.grownBy_alloc w o none) h f)

theorem other_off {b i j : Nat} (h : i ≠ j) : (⟨b, i, none⟩ : Addr) ≠ ⟨b, j, none⟩ := fun e => h (by injection e)
theorem other_block {b c i j : Nat} (h : b ≠ c) : (⟨b, i, none⟩ : Addr) ≠ ⟨c, j, none⟩ := fun e => h (by injection e)
/-- A rule is stored over another. -/
def set4 (w : World) (b : Nat) (r : Zon.R) : World :=
  (((w.setCell ⟨b, 0, none⟩ (.int .i64 r.m)).setCell ⟨b, 1, none⟩ (.int .i64 r.k)).setCell ⟨b, 2, none⟩ (.int .i64 r.d)).setCell ⟨b, 3, none⟩ (.int .i64 r.a)
theorem other_cell {w : World} {a p : Addr} {u : Value} (h : p ≠ a) {x : Option Value} (k : w.cell? p = x) : (w.setCell a u).cell? p = x := (World.cell?_setCell_other w a p u (fun e => h e.symm)).trans k
theorem RuleAt.set {w : World} {b : Nat} {r : Zon.R} (h : RuleAt w b r) (r' : Zon.R) : RuleAt (set4 w b r') b r' := by
  unfold set4
  refine ⟨?_, ?_, ?_, ?_⟩
  · exact other_cell (other_off (by omega)) (other_cell (other_off (by omega)) (other_cell (other_off (by omega)) (World.cell?_setCell_same _ _ _ h.c0)))
  · exact other_cell (other_off (by omega)) (other_cell (other_off (by omega)) (World.cell?_setCell_same _ _ _ (other_cell (other_off (by omega)) h.c1)))
  · exact other_cell (other_off (by omega)) (World.cell?_setCell_same _ _ _ (other_cell (other_off (by omega)) (other_cell (other_off (by omega)) h.c2)))
  · exact World.cell?_setCell_same _ _ _ (other_cell (other_off (by omega)) (other_cell (other_off (by omega)) (other_cell (other_off (by omega)) h.c3)))
theorem RuleAt.other {w : World} {b c : Nat} {r : Zon.R} (h : RuleAt w c r) (r' : Zon.R) (hne : c ≠ b) : RuleAt (set4 w b r') c r := by
  unfold set4
  have k : ∀ {w : World} {i j : Nat} {u : Value} {x : Option Value}, w.cell? ⟨c, i, none⟩ = x → (w.setCell ⟨b, j, none⟩ u).cell? ⟨c, i, none⟩ = x := other_cell (other_block hne)
  exact ⟨k (k (k (k h.c0))), k (k (k (k h.c1))), k (k (k (k h.c2))), k (k (k (k h.c3)))⟩
theorem set4_grown {w w1 : World} {b : Nat} {r : Option Nat} (h : w.grownBy w1 r) (hb : w.heap.size ≤ b) (r' : Zon.R) : w.grownBy (set4 w1 b r') r :=
  grown_set_new (grown_set_new (grown_set_new (grown_set_new h _ hb _) _ hb _) _ hb _) _ hb _
theorem set4_size (w : World) (b : Nat) (r : Zon.R) : (set4 w b r).heap.size = w.heap.size := by simp [set4, World.setCell]
theorem set4_frozen (w : World) (b : Nat) (r : Zon.R) (a : Addr) : (set4 w b r).frozen? a = w.frozen? a := by simp [set4]

/-- The two rules lie in new blocks. -/
structure Sw (w wx : World) (B1 B2 : Nat) (r1 r2 : Zon.R) : Prop where
  grown : w.grownBy wx none
  size : wx.heap.size = w.heap.size + 2
  lo1 : w.heap.size ≤ B1
  lo2 : w.heap.size ≤ B2
  hi1 : B1 < w.heap.size + 2
  hi2 : B2 < w.heap.size + 2
  ne : B1 ≠ B2
  one : RuleAt wx B1 r1
  two : RuleAt wx B2 r2
  f1 : ∀ i, wx.frozen? ⟨B1, i, none⟩ = false
  f2 : ∀ i, wx.frozen? ⟨B2, i, none⟩ = false
theorem Sw.drew {w wx : World} {B1 B2 : Nat} {r1 r2 : Zon.R} (h : Sw w wx B1 B2 r1 r2) : Sw w wx.drew B1 B2 r1 r2 :=
  ⟨⟨h.grown.os, h.grown.tape, h.grown.output, h.grown.size, h.grown.block⟩, h.size, h.lo1, h.lo2, h.hi1, h.hi2, h.ne, h.one.drew, h.two.drew, h.f1, h.f2⟩
theorem sw_new (w : World) (r1 r2 : Zon.R) (tr : TypeId) :
    Sw w ((w.alloc (.cells #[.int .i64 r1.m, .int .i64 r1.k, .int .i64 r1.d, .int .i64 r1.a] tr)).alloc (.cells #[.int .i64 r2.m, .int .i64 r2.k, .int .i64 r2.d, .int .i64 r2.a] tr)) w.heap.size (w.heap.size + 1) r1 r2 := by
  have e : w.heap.size + 1 = (w.alloc (.cells #[.int .i64 r1.m, .int .i64 r1.k, .int .i64 r1.d, .int .i64 r1.a] tr)).heap.size := by simp
  refine ⟨grown_alloc (World.grownBy_alloc w _ none) _, by simp, by omega, by omega, by omega, by omega, by omega, ?_, ?_, fun i => ?_, fun i => ?_⟩
  · constructor <;> (refine cell_kept2 (grown_refl _ _) _ _ ?_; rfl)
  · rw [e]
    constructor <;> (refine cell_kept (grown_refl _ _) _ _ ?_; rfl)
  · exact frozen_kept (World.grownBy_alloc _ _ none) i
  · rw [e]
    exact frozen_kept (grown_refl _ _) i
theorem Sw.flip {w wx : World} {B1 B2 : Nat} {r1 r2 : Zon.R} (h : Sw w wx B1 B2 r1 r2) : Sw w wx B2 B1 r2 r1 :=
  ⟨h.grown, h.size, h.lo2, h.lo1, h.hi2, h.hi1, h.ne.symm, h.two, h.one, h.f2, h.f1⟩

theorem Sw.swap {w wx : World} {B1 B2 : Nat} {r1 r2 : Zon.R} (h : Sw w wx B1 B2 r1 r2) : Sw w (set4 (set4 wx B1 r2) B2 r1) B1 B2 r2 r1 :=
  ⟨set4_grown (set4_grown h.grown h.lo1 _) h.lo2 _, by rw [set4_size, set4_size, h.size], h.lo1, h.lo2, h.hi1, h.hi2, h.ne, (h.one.set r2).other r1 h.ne, (h.two.other r2 h.ne.symm).set r1,
    fun i => by rw [set4_frozen, set4_frozen, h.f1], fun i => by rw [set4_frozen, set4_frozen, h.f2]⟩

/-- As the loop begins. -/
theorem rk_start {w wx : World} {b B1 B2 : Nat} {z : Zon.Z} {M : Array Value} (hM : M.size = 860) (h : Zr w b z) (ht : w.cell? ⟨b, 13, none⟩ = some (.slice none 0 0)) (s : Sw w wx B1 B2 z.fst z.snd) :
    Rk w ((wx.alloc (.cells M 2)).setCell ⟨b, 13, none⟩ (.slice (some ⟨wx.heap.size, 0, none⟩) 0 860)) b B1 B2 wx.heap.size z 0 := by
  have hb := World.block_lt_of_cell? w _ h.c1
  simp only at hb
  have g3 := grown_alloc s.grown (.cells M 2)
  have g5 := grown_set (wx.alloc (.cells M 2)) ⟨b, 13, none⟩ (.slice (some ⟨wx.heap.size, 0, none⟩) 0 860)
  have g0 := World.grownBy_alloc wx (.cells M 2) none
  have := s.lo1
  have := s.lo2
  have := s.size
  refine ⟨?_, (s.one.kept g0 (by simp)).kept g5 (by simp; omega), (s.two.kept g0 (by simp)).kept g5 (by simp; omega), ?_, ?_, ?_, ?_⟩
  · exact grown_more (grown_more (grown_refl w (some b)) g3 (by simp)) g5 (by simp)
  · intro i hi
    rw [World.cell?_setCell_other _ _ _ _ (fun e => by injection e; omega)]
    exact cell_grown g3 (a := ⟨b, i, none⟩) hb (by simp)
  · intro i
    rw [World.frozen?_setCell, frozen_grown g3 (a := ⟨b, i, none⟩) hb (by simp)]
    exact h.free i
  · refine World.ownsRow.kept ?_ g5 (.inr (by simp [Value.ownBlock]; omega))
    have := World.ownsRow_made (base := w.heap.size + 2) (e := 2) (size := 1) wx M 860 (by omega) (by unfold maxLen; omega) (by omega)
    simpa [tl] using this
  · exact World.cell?_setCell_same _ _ _ ((cell_grown g3 (a := ⟨b, 13, none⟩) hb (by simp)).trans ht)

theorem reckon_zero (b : Nat) (z : Zon.Z) (hz : z.s = 0) (w : World) (h : Zr w b z) :
    Calls Tryd.prog 59 #[.pointer (some ⟨b, 0, none⟩)] w fun e w' => e = .returned (.tuple #[]) ∧ w' = w := by
  have c1 := h.c1
  rw [hz] at c1
  clear h hz
  go_enter Tryd.func59, Tryd.ntmps59
  go_wp2
  first | go_end0 | (simp only [Exit.inBlock, Exit.then]; refine bodyPost_ret (results_none rfl _ _ _) rfl ?_) | refine bodyPost_ret (results_none rfl _ _ _) rfl ?_
  exact ⟨rfl, rfl⟩

set_option maxRecDepth 100000 in
set_option maxHeartbeats 1600000 in
theorem reckon_two (b : Nat) (z : Zon.Z) (hz : z.s ≠ 0) (h2 : z.two) (w : World) (h : Zr w b z) (ht : w.cell? ⟨b, 13, none⟩ = some (.slice none 0 0)) :
    Calls Tryd.prog 59 #[.pointer (some ⟨b, 0, none⟩)] w fun e w' => e = .returned (.tuple #[]) ∧ ∃ B1 B2 q, Rk w w' b B1 B2 q z 430 := by
  have c1 := h.c1
  have c2 := h.c2
  have c3 := h.c3
  have c4 := h.c4
  have c5 := h.c5
  have c6 := h.c6
  have c7 := h.c7
  have c8 := h.c8
  have c9 := h.c9
  have f13 := h.free 13
  have hb := World.block_lt_of_cell? w _ c1
  simp only at hb
  have A : ∀ i v, w.cell? ⟨b, i, none⟩ = some v → ∀ o, (w.alloc o).cell? ⟨b, i, none⟩ = some v := fun i v hv o => (World.grownBy_alloc w o none).cell hv (by simp)
  have A2 : ∀ i v, w.cell? ⟨b, i, none⟩ = some v → ∀ o p, ((w.alloc o).alloc p).cell? ⟨b, i, none⟩ = some v := fun i v hv o p => (grown_alloc (World.grownBy_alloc w o none) p).cell hv (by simp)
  have d2 := A 2 _ c2
  have d3 := A 3 _ c3
  have d4 := A 4 _ c4
  have d5 := A 5 _ c5
  have d6 := A 6 _ c6
  have d7 := A 7 _ c7
  have d8 := A 8 _ c8
  have d9 := A 9 _ c9
  have e2 := A2 2 _ c2
  have e3 := A2 3 _ c3
  have e4 := A2 4 _ c4
  have e5 := A2 5 _ c5
  have e6 := A2 6 _ c6
  have e7 := A2 7 _ c7
  have e8 := A2 8 _ c8
  have e9 := A2 9 _ c9
  have A3 : ∀ o p r, (((w.alloc o).alloc p).alloc r).cell? ⟨b, 13, none⟩ = some (.slice none 0 0) := fun o p r => (grown_alloc (grown_alloc (World.grownBy_alloc w o none) p) r).cell ht (by simp)
  have F3 : ∀ o p r, (((w.alloc o).alloc p).alloc r).frozen? ⟨b, 13, none⟩ = false := fun o p r => (frozen_grown (grown_alloc (grown_alloc (World.grownBy_alloc w o none) p) r) (a := ⟨b, 13, none⟩) hb (by simp)).trans f13
  clear A A2
  obtain ⟨M, hM, HM⟩ := make_860
  obtain ⟨i0, hi0, _, hi1, _⟩ := info_parts info_i64
  have g0 : (z.s == 0) = false := by simpa using hz
  clear e2 e3 e4 e5 e6 e7 e8 e9 A3 F3
  have e2 := fun o p => cell_alloc (cell_alloc c2 o) p
  have e3 := fun o p => cell_alloc (cell_alloc c3 o) p
  have e4 := fun o p => cell_alloc (cell_alloc c4 o) p
  have e5 := fun o p => cell_alloc (cell_alloc c5 o) p
  have e6 := fun o p => cell_alloc (cell_alloc c6 o) p
  have e7 := fun o p => cell_alloc (cell_alloc c7 o) p
  have e8 := fun o p => cell_alloc (cell_alloc c8 o) p
  have e9 := fun o p => cell_alloc (cell_alloc c9 o) p
  go_enter Tryd.func59, Tryd.ntmps59
  go_upto_region 1 with fail
  go_cut [2, 3] (fun x2 x3 wx => ∃ B1 B2, x2 = .pointer (some ⟨B1, 0, none⟩) ∧ x3 = .pointer (some ⟨B2, 0, none⟩) ∧ Sw w wx B1 B2 z.on z.off)
  case first =>
    go_region
    all_goals (try go_wp2_with fail)
    all_goals go_meet
    · exact ⟨_, _, rfl, rfl, (sw_new w z.on z.off _).drew⟩
    · exact ⟨_, _, rfl, rfl, (sw_new w z.off z.on _).flip.drew⟩
  case rest =>
    obtain ⟨B1, B2, rfl, rfl, S⟩ := hcut
    clear c1 c2 c3 c4 c5 c6 c7 c8 c9 d2 d3 d4 d5 d6 d7 d8 d9 e2 e3 e4 e5 e6 e7 e8 e9
    have o0 := S.one.c0
    have o1 := S.one.c1
    have o2 := S.one.c2
    have o3 := S.one.c3
    have p0 := S.two.c0
    have p1 := S.two.c1
    have p2 := S.two.c2
    have p3 := S.two.c3
    have fa := S.f1
    have fb := S.f2
    have hne := S.ne
    have hne' := S.ne.symm
    go_upto_if 25 with fail
    go_cut [] (fun wx => Sw w wx B1 B2 z.fst z.snd)
    case first =>
      by_cases hm : z.off.m < z.on.m
      · have hf : z.fst = z.off := by unfold Zon.Z.fst; rw [if_pos hm]
        have hs : z.snd = z.on := by unfold Zon.Z.snd; rw [if_pos hm]
        have SS := S
        clear S
        go_wp2_with fail
        go_meet
        rw [hf, hs]
        exact SS.swap
      · have hf : z.fst = z.on := by unfold Zon.Z.fst; rw [if_neg hm]
        have hs : z.snd = z.off := by unfold Zon.Z.snd; rw [if_neg hm]
        go_wp2_with fail
        go_meet
        rw [hf, hs]
        exact S
    case rest =>
      clear o0 o1 o2 o3 p0 p1 p2 p3 S fa fb hne hne'
      have S := hcut
      clear hcut
      have R0 := (rk_start hM h ht S)
      have hb13 := cell_alloc (S.grown.cell (a := ⟨b, 13, none⟩) ht (by simp))
      have hf13 := fun o => frozen_none (World.grownBy_alloc wc o none) (S.grown.cell (a := ⟨b, 13, none⟩) ht (by simp)) (frozen_none S.grown ht f13)
      have HS : Hid (wc.heap.size = w.heap.size + 2) := S.size
      have l1 := S.lo1
      have l2 := S.lo2
      have i1 := S.hi1
      have i2 := S.hi2
      go_upto_region 5 with fail
      obtain ⟨q, hq⟩ : ∃ q, q = wc.heap.size := ⟨_, rfl⟩
      rw [← hq]
      rw [← hq] at R0
      have hq2 : Hid (q = w.heap.size + 2) := hq.trans HS.out
      clear hq
      go_wp2_with fail
      generalize (wc.alloc (Obj.cells M 2)).setCell ⟨b, 13, none⟩ (.slice (some ⟨q, 0, none⟩) 0 860) = ws at R0 ⊢
      clear hb13 hf13 HM S HS
      go_loopw [4] (fun y wr => ∃ n : Nat, n ≤ 430 ∧ y = .int .i64 (1970 + n) ∧ Rk w wr b B1 B2 q z n) (fun y _ => (2400 - intOf y).toNat)
      case atStart => exact ⟨0, by omega, rfl, R0⟩
      case round =>
        clear R0
        obtain ⟨n, hn, rfl, R⟩ := hrel
        have o0 := R.one.c0
        have o1 := R.one.c1
        have o2 := R.one.c2
        have o3 := R.one.c3
        have p0 := R.two.c0
        have p1 := R.two.c1
        have p2 := R.two.c2
        have p3 := R.two.c3
        have q13 := R.turns
        have qf := R.free 13
        by_cases hlt : n < 430
        · have M1 := moment_any z.fst (Zon.fst_ok h2) (1970 + n) (by omega) (by omega)
          have M2 := moment_any z.snd (Zon.snd_ok h2) (1970 + n) (by omega) (by omega)
          go_upto_block 1 with fail
          go_cut [] from 32 to 50 (fun wx => Rk w wx b B1 B2 q z (n + 1))
          case first =>
            go_upto_region 8 with fail
            go_region_law (first
              | (refine step_of rfl (wp_append_own_spare _ (.tmp 40) (.tmp 47) 40 rfl (w.heap.size + 2) 2 i0 1 Tryd.underlying40 hi0 hi1 q (2 * n) 860 (tl z n) rfl (ho2.alloc _) ⟨w2.heap.size, 0, none⟩ 2 2 [.int .i64 (Zon.mom z.fst (1970 + n)), .int .i64 (Zon.mom z.snd (1970 + n))] rfl rfl (two_cells _ _ _ _) (one_cells _ _) (by omega) ?_); intro w3 ow3 gw3; have tw3 := gw3.cell (a := ⟨b, 13, none⟩) (cell_alloc tw2 _) (by have := hq2.out; simp; omega); have fw3 := frozen_of gw3 tw2 fw2 (by have := hq2.out; simp; omega))
              | (go_simp; go_at_call 68; have _t := M1; refine (M1 _).mono ?_; rintro e w1 ⟨rfl, hg1⟩; clear M1; have pw0 := hg1.cell (a := ⟨B2, 0, none⟩) p0 (by simp); have pw1 := hg1.cell (a := ⟨B2, 1, none⟩) p1 (by simp); have pw2 := hg1.cell (a := ⟨B2, 2, none⟩) p2 (by simp); have pw3 := hg1.cell (a := ⟨B2, 3, none⟩) p3 (by simp); have tw1 := hg1.cell (a := ⟨b, 13, none⟩) q13 (by simp); have fw1 := frozen_none hg1 q13 qf)
              | (go_simp; go_at_call 68; have _t := M2; refine (M2 _).mono ?_; rintro e w2 ⟨rfl, hg2⟩; clear M2; have tw2 := hg2.cell (a := ⟨b, 13, none⟩) tw1 (by simp); have tw2a := cell_alloc tw2; have fw2 := frozen_none hg2 tw1 fw1; have ho2 := (R.drew.own.kept hg1 (.inr (by simp [Value.ownBlock]))).kept hg2 (.inr (by simp [Value.ownBlock]))))
            all_goals (try go_wp2_with fail)
            all_goals go_meet
            all_goals exact R.drew.step hb l1 l2 i1 i2 _ (grown_more hg1 hg2 (by simp)) gw3 ow3
          case rest =>
            clear M1 M2 o0 o1 o2 o3 p0 p1 p2 p3 q13 qf R
            have R := hcut
            clear hcut
            go_wp2_with fail
            go_roundw
            case rel => exact ⟨n + 1, by omega, val_int (by omega), R⟩
            case measure => simp [intOf]; omega
        · obtain rfl : n = 430 := by omega
          go_wp2_with fail
          first | go_end0 | (simp only [Exit.inBlock, Exit.then]; refine bodyPost_ret (results_none rfl _ _ _) rfl ?_) | refine bodyPost_ret (results_none rfl _ _ _) rfl ?_
          exact ⟨rfl, B1, B2, q, R⟩
end Go.Proofs.YteiiapnpdfgoaaaDoor
