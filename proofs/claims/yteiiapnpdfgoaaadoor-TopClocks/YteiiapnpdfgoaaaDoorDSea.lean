/- A search in memory; what 'leap' answers. -/
import Derived.Test.YteiiapnpdfgoaaaDoorDGap
import Derived.Test.YteiiapnpdfgoaaaDoorDZone
import Derived.BigQuiet
import Derived.Deep.QuietTactic
import Derived.Deep.MidRow
namespace Go.Proofs.YteiiapnpdfgoaaaDoor
open Go.RowKit
set_option linter.unusedVariables false

/-- A search as a value. -/
abbrev seav (b : Nat) (c1 c2 c3 c4 : Cro.C) : Value := .agg #[.pointer (some ⟨b, 0, none⟩), .int .u64 c1.mi, .int .u64 c1.ho, .int .u64 c1.da, .int .u64 c1.mo, .int .u64 c1.we, .bool c1.ad, .bool c1.aw, .int .u64 c2.mi, .int .u64 c2.ho, .int .u64 c2.da, .int .u64 c2.mo, .int .u64 c2.we, .bool c2.ad, .bool c2.aw, .int .u64 c3.mi, .int .u64 c3.ho, .int .u64 c3.da, .int .u64 c3.mo, .int .u64 c3.we, .bool c3.ad, .bool c3.aw, .int .u64 c4.mi, .int .u64 c4.ho, .int .u64 c4.da, .int .u64 c4.mo, .int .u64 c4.we, .bool c4.ad, .bool c4.aw]
/-- A search in the block q. -/
structure Se (v : World) (q b : Nat) (c1 c2 c3 c4 : Cro.C) : Prop where
  z : v.cell? ⟨q, 0, none⟩ = some (.pointer (some ⟨b, 0, none⟩))
  a0 : v.cell? ⟨q, 1, none⟩ = some (.int .u64 c1.mi)
  a1 : v.cell? ⟨q, 2, none⟩ = some (.int .u64 c1.ho)
  a2 : v.cell? ⟨q, 3, none⟩ = some (.int .u64 c1.da)
  a3 : v.cell? ⟨q, 4, none⟩ = some (.int .u64 c1.mo)
  a4 : v.cell? ⟨q, 5, none⟩ = some (.int .u64 c1.we)
  a5 : v.cell? ⟨q, 6, none⟩ = some (.bool c1.ad)
  a6 : v.cell? ⟨q, 7, none⟩ = some (.bool c1.aw)
  b0 : v.cell? ⟨q, 8, none⟩ = some (.int .u64 c2.mi)
  b1 : v.cell? ⟨q, 9, none⟩ = some (.int .u64 c2.ho)
  b2 : v.cell? ⟨q, 10, none⟩ = some (.int .u64 c2.da)
  b3 : v.cell? ⟨q, 11, none⟩ = some (.int .u64 c2.mo)
  b4 : v.cell? ⟨q, 12, none⟩ = some (.int .u64 c2.we)
  b5 : v.cell? ⟨q, 13, none⟩ = some (.bool c2.ad)
  b6 : v.cell? ⟨q, 14, none⟩ = some (.bool c2.aw)
  d0 : v.cell? ⟨q, 15, none⟩ = some (.int .u64 c3.mi)
  d1 : v.cell? ⟨q, 16, none⟩ = some (.int .u64 c3.ho)
  d2 : v.cell? ⟨q, 17, none⟩ = some (.int .u64 c3.da)
  d3 : v.cell? ⟨q, 18, none⟩ = some (.int .u64 c3.mo)
  d4 : v.cell? ⟨q, 19, none⟩ = some (.int .u64 c3.we)
  d5 : v.cell? ⟨q, 20, none⟩ = some (.bool c3.ad)
  d6 : v.cell? ⟨q, 21, none⟩ = some (.bool c3.aw)
  e0 : v.cell? ⟨q, 22, none⟩ = some (.int .u64 c4.mi)
  e1 : v.cell? ⟨q, 23, none⟩ = some (.int .u64 c4.ho)
  e2 : v.cell? ⟨q, 24, none⟩ = some (.int .u64 c4.da)
  e3 : v.cell? ⟨q, 25, none⟩ = some (.int .u64 c4.mo)
  e4 : v.cell? ⟨q, 26, none⟩ = some (.int .u64 c4.we)
  e5 : v.cell? ⟨q, 27, none⟩ = some (.bool c4.ad)
  e6 : v.cell? ⟨q, 28, none⟩ = some (.bool c4.aw)
theorem Se.kept {v v' : World} {q b : Nat} {c1 c2 c3 c4 : Cro.C} {row : Option Nat} (h : Se v q b c1 c2 c3 c4) (g : v.grownBy v' row) (hr : row ≠ some q) : Se v' q b c1 c2 c3 c4 :=
  ⟨g.cell h.z (fun e => hr e.symm), g.cell h.a0 (fun e => hr e.symm), g.cell h.a1 (fun e => hr e.symm), g.cell h.a2 (fun e => hr e.symm), g.cell h.a3 (fun e => hr e.symm), g.cell h.a4 (fun e => hr e.symm), g.cell h.a5 (fun e => hr e.symm), g.cell h.a6 (fun e => hr e.symm), g.cell h.b0 (fun e => hr e.symm), g.cell h.b1 (fun e => hr e.symm), g.cell h.b2 (fun e => hr e.symm), g.cell h.b3 (fun e => hr e.symm), g.cell h.b4 (fun e => hr e.symm), g.cell h.b5 (fun e => hr e.symm), g.cell h.b6 (fun e => hr e.symm), g.cell h.d0 (fun e => hr e.symm), g.cell h.d1 (fun e => hr e.symm), g.cell h.d2 (fun e => hr e.symm), g.cell h.d3 (fun e => hr e.symm), g.cell h.d4 (fun e => hr e.symm), g.cell h.d5 (fun e => hr e.symm), g.cell h.d6 (fun e => hr e.symm), g.cell h.e0 (fun e => hr e.symm), g.cell h.e1 (fun e => hr e.symm), g.cell h.e2 (fun e => hr e.symm), g.cell h.e3 (fun e => hr e.symm), g.cell h.e4 (fun e => hr e.symm), g.cell h.e5 (fun e => hr e.symm), g.cell h.e6 (fun e => hr e.symm)⟩
theorem Se.new (w : World) (b : Nat) (c1 c2 c3 c4 : Cro.C) (t : TypeId) : Se (w.alloc (.cells #[.pointer (some ⟨b, 0, none⟩), .int .u64 c1.mi, .int .u64 c1.ho, .int .u64 c1.da, .int .u64 c1.mo, .int .u64 c1.we, .bool c1.ad, .bool c1.aw, .int .u64 c2.mi, .int .u64 c2.ho, .int .u64 c2.da, .int .u64 c2.mo, .int .u64 c2.we, .bool c2.ad, .bool c2.aw, .int .u64 c3.mi, .int .u64 c3.ho, .int .u64 c3.da, .int .u64 c3.mo, .int .u64 c3.we, .bool c3.ad, .bool c3.aw, .int .u64 c4.mi, .int .u64 c4.ho, .int .u64 c4.da, .int .u64 c4.mo, .int .u64 c4.we, .bool c4.ad, .bool c4.aw] t)) w.heap.size b c1 c2 c3 c4 :=
  ⟨by rw [World.cell?_alloc_new]; rfl, by rw [World.cell?_alloc_new]; rfl, by rw [World.cell?_alloc_new]; rfl, by rw [World.cell?_alloc_new]; rfl, by rw [World.cell?_alloc_new]; rfl, by rw [World.cell?_alloc_new]; rfl, by rw [World.cell?_alloc_new]; rfl, by rw [World.cell?_alloc_new]; rfl, by rw [World.cell?_alloc_new]; rfl, by rw [World.cell?_alloc_new]; rfl, by rw [World.cell?_alloc_new]; rfl, by rw [World.cell?_alloc_new]; rfl, by rw [World.cell?_alloc_new]; rfl, by rw [World.cell?_alloc_new]; rfl, by rw [World.cell?_alloc_new]; rfl, by rw [World.cell?_alloc_new]; rfl, by rw [World.cell?_alloc_new]; rfl, by rw [World.cell?_alloc_new]; rfl, by rw [World.cell?_alloc_new]; rfl, by rw [World.cell?_alloc_new]; rfl, by rw [World.cell?_alloc_new]; rfl, by rw [World.cell?_alloc_new]; rfl, by rw [World.cell?_alloc_new]; rfl, by rw [World.cell?_alloc_new]; rfl, by rw [World.cell?_alloc_new]; rfl, by rw [World.cell?_alloc_new]; rfl, by rw [World.cell?_alloc_new]; rfl, by rw [World.cell?_alloc_new]; rfl, by rw [World.cell?_alloc_new]; rfl⟩
theorem Se.lt {v : World} {q b : Nat} {c1 c2 c3 c4 : Cro.C} (h : Se v q b c1 c2 c3 c4) : q < v.heap.size := World.block_lt_of_cell? v _ h.z
theorem Se.range {v : World} {q b : Nat} {c1 c2 c3 c4 : Cro.C} (h : Se v q b c1 c2 c3 c4) : v.rangeAt q 0 [.pointer (some ⟨b, 0, none⟩), .int .u64 c1.mi, .int .u64 c1.ho, .int .u64 c1.da, .int .u64 c1.mo, .int .u64 c1.we, .bool c1.ad, .bool c1.aw, .int .u64 c2.mi, .int .u64 c2.ho, .int .u64 c2.da, .int .u64 c2.mo, .int .u64 c2.we, .bool c2.ad, .bool c2.aw, .int .u64 c3.mi, .int .u64 c3.ho, .int .u64 c3.da, .int .u64 c3.mo, .int .u64 c3.we, .bool c3.ad, .bool c3.aw, .int .u64 c4.mi, .int .u64 c4.ho, .int .u64 c4.da, .int .u64 c4.mo, .int .u64 c4.we, .bool c4.ad, .bool c4.aw] := fun j x hx => by
  have hj : j < 29 := by obtain ⟨h1, _⟩ := List.getElem?_eq_some_iff.mp hx; simpa using h1
  match j, hj, hx with
  | 0, _, hx => injection hx with hx; subst hx; exact h.z
  | 1, _, hx => injection hx with hx; subst hx; exact h.a0
  | 2, _, hx => injection hx with hx; subst hx; exact h.a1
  | 3, _, hx => injection hx with hx; subst hx; exact h.a2
  | 4, _, hx => injection hx with hx; subst hx; exact h.a3
  | 5, _, hx => injection hx with hx; subst hx; exact h.a4
  | 6, _, hx => injection hx with hx; subst hx; exact h.a5
  | 7, _, hx => injection hx with hx; subst hx; exact h.a6
  | 8, _, hx => injection hx with hx; subst hx; exact h.b0
  | 9, _, hx => injection hx with hx; subst hx; exact h.b1
  | 10, _, hx => injection hx with hx; subst hx; exact h.b2
  | 11, _, hx => injection hx with hx; subst hx; exact h.b3
  | 12, _, hx => injection hx with hx; subst hx; exact h.b4
  | 13, _, hx => injection hx with hx; subst hx; exact h.b5
  | 14, _, hx => injection hx with hx; subst hx; exact h.b6
  | 15, _, hx => injection hx with hx; subst hx; exact h.d0
  | 16, _, hx => injection hx with hx; subst hx; exact h.d1
  | 17, _, hx => injection hx with hx; subst hx; exact h.d2
  | 18, _, hx => injection hx with hx; subst hx; exact h.d3
  | 19, _, hx => injection hx with hx; subst hx; exact h.d4
  | 20, _, hx => injection hx with hx; subst hx; exact h.d5
  | 21, _, hx => injection hx with hx; subst hx; exact h.d6
  | 22, _, hx => injection hx with hx; subst hx; exact h.e0
  | 23, _, hx => injection hx with hx; subst hx; exact h.e1
  | 24, _, hx => injection hx with hx; subst hx; exact h.e2
  | 25, _, hx => injection hx with hx; subst hx; exact h.e3
  | 26, _, hx => injection hx with hx; subst hx; exact h.e4
  | 27, _, hx => injection hx with hx; subst hx; exact h.e5
  | 28, _, hx => injection hx with hx; subst hx; exact h.e6
theorem Se.load {v : World} {q b : Nat} {c1 c2 c3 c4 : Cro.C} (h : Se v q b c1 c2 c3 c4) : (Instr.loadAt 63 (.pointer (some ⟨q, 0, none⟩))).run Tryd.prog v = .ok (seav b c1 c2 c3 c4) v :=
  run_loadAt_mid v q 0 63 _ _ h.range Tryd.underlying63 rfl (by kernel_rfl)
theorem gcell {w w1 : World} {C : Array Value} {t : TypeId} (hg : (w.alloc (.cells C t)).grownBy w1 none) (i : Nat) (v : Value) (h : C[i]? = some v) : w1.cell? ⟨w.heap.size, i, none⟩ = some v := cell_kept hg i v h

set_option maxRecDepth 100000 in
set_option maxHeartbeats 1600000 in
theorem leap_yes (c1 c2 c3 c4 : Cro.C) (b : Nat) (Q : World → Prop) (QK : ∀ v v', Q v → v.grownBy v' none → Q v') (t y m d h n k : Int) (hh1 : 0 ≤ h) (hh2 : h ≤ 23) (hn1 : 0 ≤ n) (hn2 : n ≤ 59) (hd1 : 1 ≤ d) (hd2 : d ≤ 31)
    (w : World) (hb : b < w.heap.size) (GK : ∀ v, w.grownBy v (some b) → Gd v)
    (LO : ∀ o, Calls Tryd.prog 46 #[.pointer (some ⟨b, 0, none⟩), .int .i64 t] (w.alloc o) fun e w' => e = .returned (.tuple #[civ y m d h n k, .int .i64 0]) ∧ (w.alloc o).grownBy w' (some b) ∧ Q w')
    (F1 : ∀ w, Gl w → Calls Tryd.prog 47 #[.agg #[.int .u64 c1.mi, .int .u64 c1.ho, .int .u64 c1.da, .int .u64 c1.mo, .int .u64 c1.we, .bool c1.ad, .bool c1.aw], civ y m d h n k] w fun e w' => e = .returned (.bool true) ∧ w.grownBy w' none) :
    Calls Tryd.prog 36 #[seav b c1 c2 c3 c4, .int .i64 t] w fun e w' => e = .returned (.int .i64 (0)) ∧ w.grownBy w' (some b) ∧ Q w' := by
  have hnot : ∀ (x : Bool) (w : World), (Op.unary .not (.bool x)).run Tryd.prog w = .ok (.bool (!x)) w := fun _ _ => rfl
  replace GK : Hid _ := GK
  go_enter Tryd.func36, Tryd.ntmps36
  have z0 := (Se.new w b c1 c2 c3 c4 63).z
  go_wp2_with (first
    | (go_at_call 46; go_must (refine (LO _).mono ?_); rintro e w1 ⟨rfl, hg1, hZ1⟩; have k1 : w.grownBy w1 (some b) := grown_more (World.grownBy_alloc w _ (some b)) hg1 (fun _ e => .inl e); have K2 := fun o => grown_alloc k1 o; have G2 := fun o => (GK.out _ (K2 o)).gl; have Z2 := fun o => QK _ _ hZ1 (World.grownBy_alloc w1 o none); have S1 := (Se.new w b c1 c2 c3 c4 _).kept hg1 (by simp; omega); have S2 := fun o => S1.kept (World.grownBy_alloc w1 o none) (by simp); have a0 := fun o => (S2 o).a0; have a1 := fun o => (S2 o).a1; have a2 := fun o => (S2 o).a2; have a3 := fun o => (S2 o).a3; have a4 := fun o => (S2 o).a4; have a5 := fun o => (S2 o).a5; have a6 := fun o => (S2 o).a6)
    | (go_at_call 47; with_reducible refine (F1 _ (G2 _)).mono ?_; rintro e w3 ⟨rfl, hg3⟩; have K3 := grown_more (K2 _) hg3 (by simp); have G3 := (GK.out _ K3).gl; have T3 := (GK.out _ K3).tb; have H3 := hg3; have S3 := (S2 _).kept hg3 (by simp); have Z3 := QK _ _ (Z2 _) hg3; have x30 := cell_kept H3 0 _ rfl; have x31 := cell_kept H3 1 _ rfl; have x32 := cell_kept H3 2 _ rfl; have x33 := cell_kept H3 3 _ rfl; have x34 := cell_kept H3 4 _ rfl; have x35 := cell_kept H3 5 _ rfl))
  go_ret
  exact ⟨ret_int (by omega), K3, Z3⟩

set_option maxRecDepth 100000 in
set_option maxHeartbeats 1600000 in
theorem leap_month (c1 c2 c3 c4 : Cro.C) (b : Nat) (Q : World → Prop) (QK : ∀ v v', Q v → v.grownBy v' none → Q v') (t y m d h n k : Int) (hh1 : 0 ≤ h) (hh2 : h ≤ 23) (hn1 : 0 ≤ n) (hn2 : n ≤ 59) (hd1 : 1 ≤ d) (hd2 : d ≤ 31)
    (w : World) (hb : b < w.heap.size) (GK : ∀ v, w.grownBy v (some b) → Gd v)
    (LO : ∀ o, Calls Tryd.prog 46 #[.pointer (some ⟨b, 0, none⟩), .int .i64 t] (w.alloc o) fun e w' => e = .returned (.tuple #[civ y m d h n k, .int .i64 0]) ∧ (w.alloc o).grownBy w' (some b) ∧ Q w')
    (F1 : ∀ w, Gl w → Calls Tryd.prog 47 #[.agg #[.int .u64 c1.mi, .int .u64 c1.ho, .int .u64 c1.da, .int .u64 c1.mo, .int .u64 c1.we, .bool c1.ad, .bool c1.aw], civ y m d h n k] w fun e w' => e = .returned (.bool false) ∧ w.grownBy w' none) (F4 : ∀ w, Gl w → Calls Tryd.prog 47 #[.agg #[.int .u64 c4.mi, .int .u64 c4.ho, .int .u64 c4.da, .int .u64 c4.mo, .int .u64 c4.we, .bool c4.ad, .bool c4.aw], civ y m d h n k] w fun e w' => e = .returned (.bool false) ∧ w.grownBy w' none) :
    Calls Tryd.prog 36 #[seav b c1 c2 c3 c4, .int .i64 t] w fun e w' => e = .returned (.int .i64 ((max (28 - d) 0 + 1) * 1440 - (h * 60 + n))) ∧ w.grownBy w' (some b) ∧ Q w' := by
  have hnot : ∀ (x : Bool) (w : World), (Op.unary .not (.bool x)).run Tryd.prog w = .ok (.bool (!x)) w := fun _ _ => rfl
  replace GK : Hid _ := GK
  go_enter Tryd.func36, Tryd.ntmps36
  have z0 := (Se.new w b c1 c2 c3 c4 63).z
  go_wp2_with (first
    | (go_at_call 46; go_must (refine (LO _).mono ?_); rintro e w1 ⟨rfl, hg1, hZ1⟩; have k1 : w.grownBy w1 (some b) := grown_more (World.grownBy_alloc w _ (some b)) hg1 (fun _ e => .inl e); have K2 := fun o => grown_alloc k1 o; have G2 := fun o => (GK.out _ (K2 o)).gl; have Z2 := fun o => QK _ _ hZ1 (World.grownBy_alloc w1 o none); have S1 := (Se.new w b c1 c2 c3 c4 _).kept hg1 (by simp; omega); have S2 := fun o => S1.kept (World.grownBy_alloc w1 o none) (by simp); have a0 := fun o => (S2 o).a0; have a1 := fun o => (S2 o).a1; have a2 := fun o => (S2 o).a2; have a3 := fun o => (S2 o).a3; have a4 := fun o => (S2 o).a4; have a5 := fun o => (S2 o).a5; have a6 := fun o => (S2 o).a6)
    | (go_at_call 47; with_reducible refine (F1 _ (G2 _)).mono ?_; rintro e w3 ⟨rfl, hg3⟩; have K3 := grown_more (K2 _) hg3 (by simp); have G3 := (GK.out _ K3).gl; have T3 := (GK.out _ K3).tb; have H3 := hg3; have S3 := (S2 _).kept hg3 (by simp); have Z3 := QK _ _ (Z2 _) hg3; have x30 := cell_kept H3 0 _ rfl; have x31 := cell_kept H3 1 _ rfl; have x32 := cell_kept H3 2 _ rfl; have x33 := cell_kept H3 3 _ rfl; have x34 := cell_kept H3 4 _ rfl; have x35 := cell_kept H3 5 _ rfl; have e0 := S3.e0; have e1 := S3.e1; have e2 := S3.e2; have e3 := S3.e3; have e4 := S3.e4; have e5 := S3.e5; have e6 := S3.e6)
    | (go_at_call 47; with_reducible refine (F4 _ G3).mono ?_; rintro e w4 ⟨rfl, hg4⟩; have K4 := grown_more K3 hg4 (by simp); have G4 := (GK.out _ K4).gl; have T4 := (GK.out _ K4).tb; have H4 := grown_more H3 hg4 (by simp); have S4 := S3.kept hg4 (by simp); have Z4 := QK _ _ Z3 hg4; have x40 := cell_kept H4 0 _ rfl; have x41 := cell_kept H4 1 _ rfl; have x42 := cell_kept H4 2 _ rfl; have x43 := cell_kept H4 3 _ rfl; have x44 := cell_kept H4 4 _ rfl; have x45 := cell_kept H4 5 _ rfl))
  go_ret
  exact ⟨ret_int (by omega), K4, Z4⟩

set_option maxRecDepth 100000 in
set_option maxHeartbeats 1600000 in
theorem leap_day (c1 c2 c3 c4 : Cro.C) (b : Nat) (Q : World → Prop) (QK : ∀ v v', Q v → v.grownBy v' none → Q v') (t y m d h n k : Int) (hh1 : 0 ≤ h) (hh2 : h ≤ 23) (hn1 : 0 ≤ n) (hn2 : n ≤ 59) (hd1 : 1 ≤ d) (hd2 : d ≤ 31)
    (w : World) (hb : b < w.heap.size) (GK : ∀ v, w.grownBy v (some b) → Gd v)
    (LO : ∀ o, Calls Tryd.prog 46 #[.pointer (some ⟨b, 0, none⟩), .int .i64 t] (w.alloc o) fun e w' => e = .returned (.tuple #[civ y m d h n k, .int .i64 0]) ∧ (w.alloc o).grownBy w' (some b) ∧ Q w')
    (F1 : ∀ w, Gl w → Calls Tryd.prog 47 #[.agg #[.int .u64 c1.mi, .int .u64 c1.ho, .int .u64 c1.da, .int .u64 c1.mo, .int .u64 c1.we, .bool c1.ad, .bool c1.aw], civ y m d h n k] w fun e w' => e = .returned (.bool false) ∧ w.grownBy w' none) (F4 : ∀ w, Gl w → Calls Tryd.prog 47 #[.agg #[.int .u64 c4.mi, .int .u64 c4.ho, .int .u64 c4.da, .int .u64 c4.mo, .int .u64 c4.we, .bool c4.ad, .bool c4.aw], civ y m d h n k] w fun e w' => e = .returned (.bool true) ∧ w.grownBy w' none) (F3 : ∀ w, Gl w → Calls Tryd.prog 47 #[.agg #[.int .u64 c3.mi, .int .u64 c3.ho, .int .u64 c3.da, .int .u64 c3.mo, .int .u64 c3.we, .bool c3.ad, .bool c3.aw], civ y m d h n k] w fun e w' => e = .returned (.bool false) ∧ w.grownBy w' none) :
    Calls Tryd.prog 36 #[seav b c1 c2 c3 c4, .int .i64 t] w fun e w' => e = .returned (.int .i64 (1440 - (h * 60 + n))) ∧ w.grownBy w' (some b) ∧ Q w' := by
  have hnot : ∀ (x : Bool) (w : World), (Op.unary .not (.bool x)).run Tryd.prog w = .ok (.bool (!x)) w := fun _ _ => rfl
  replace GK : Hid _ := GK
  go_enter Tryd.func36, Tryd.ntmps36
  have z0 := (Se.new w b c1 c2 c3 c4 63).z
  go_wp2_with (first
    | (go_at_call 46; go_must (refine (LO _).mono ?_); rintro e w1 ⟨rfl, hg1, hZ1⟩; have k1 : w.grownBy w1 (some b) := grown_more (World.grownBy_alloc w _ (some b)) hg1 (fun _ e => .inl e); have K2 := fun o => grown_alloc k1 o; have G2 := fun o => (GK.out _ (K2 o)).gl; have Z2 := fun o => QK _ _ hZ1 (World.grownBy_alloc w1 o none); have S1 := (Se.new w b c1 c2 c3 c4 _).kept hg1 (by simp; omega); have S2 := fun o => S1.kept (World.grownBy_alloc w1 o none) (by simp); have a0 := fun o => (S2 o).a0; have a1 := fun o => (S2 o).a1; have a2 := fun o => (S2 o).a2; have a3 := fun o => (S2 o).a3; have a4 := fun o => (S2 o).a4; have a5 := fun o => (S2 o).a5; have a6 := fun o => (S2 o).a6)
    | (go_at_call 47; with_reducible refine (F1 _ (G2 _)).mono ?_; rintro e w3 ⟨rfl, hg3⟩; have K3 := grown_more (K2 _) hg3 (by simp); have G3 := (GK.out _ K3).gl; have T3 := (GK.out _ K3).tb; have H3 := hg3; have S3 := (S2 _).kept hg3 (by simp); have Z3 := QK _ _ (Z2 _) hg3; have x30 := cell_kept H3 0 _ rfl; have x31 := cell_kept H3 1 _ rfl; have x32 := cell_kept H3 2 _ rfl; have x33 := cell_kept H3 3 _ rfl; have x34 := cell_kept H3 4 _ rfl; have x35 := cell_kept H3 5 _ rfl; have e0 := S3.e0; have e1 := S3.e1; have e2 := S3.e2; have e3 := S3.e3; have e4 := S3.e4; have e5 := S3.e5; have e6 := S3.e6)
    | (go_at_call 47; with_reducible refine (F4 _ G3).mono ?_; rintro e w4 ⟨rfl, hg4⟩; have K4 := grown_more K3 hg4 (by simp); have G4 := (GK.out _ K4).gl; have T4 := (GK.out _ K4).tb; have H4 := grown_more H3 hg4 (by simp); have S4 := S3.kept hg4 (by simp); have Z4 := QK _ _ Z3 hg4; have x40 := cell_kept H4 0 _ rfl; have x41 := cell_kept H4 1 _ rfl; have x42 := cell_kept H4 2 _ rfl; have x43 := cell_kept H4 3 _ rfl; have x44 := cell_kept H4 4 _ rfl; have x45 := cell_kept H4 5 _ rfl; have d0 := S4.d0; have d1 := S4.d1; have d2 := S4.d2; have d3 := S4.d3; have d4 := S4.d4; have d5 := S4.d5; have d6 := S4.d6)
    | (go_at_call 47; with_reducible refine (F3 _ G4).mono ?_; rintro e w5 ⟨rfl, hg5⟩; have K5 := grown_more K4 hg5 (by simp); have G5 := (GK.out _ K5).gl; have T5 := (GK.out _ K5).tb; have H5 := grown_more H4 hg5 (by simp); have S5 := S4.kept hg5 (by simp); have Z5 := QK _ _ Z4 hg5; have x50 := cell_kept H5 0 _ rfl; have x51 := cell_kept H5 1 _ rfl; have x52 := cell_kept H5 2 _ rfl; have x53 := cell_kept H5 3 _ rfl; have x54 := cell_kept H5 4 _ rfl; have x55 := cell_kept H5 5 _ rfl))
  go_ret
  exact ⟨ret_int (by omega), K5, Z5⟩

set_option maxRecDepth 100000 in
set_option maxHeartbeats 1600000 in
theorem leap_hour (c1 c2 c3 c4 : Cro.C) (b : Nat) (Q : World → Prop) (QK : ∀ v v', Q v → v.grownBy v' none → Q v') (t y m d h n k : Int) (hh1 : 0 ≤ h) (hh2 : h ≤ 23) (hn1 : 0 ≤ n) (hn2 : n ≤ 59) (hd1 : 1 ≤ d) (hd2 : d ≤ 31)
    (w : World) (hb : b < w.heap.size) (GK : ∀ v, w.grownBy v (some b) → Gd v)
    (LO : ∀ o, Calls Tryd.prog 46 #[.pointer (some ⟨b, 0, none⟩), .int .i64 t] (w.alloc o) fun e w' => e = .returned (.tuple #[civ y m d h n k, .int .i64 0]) ∧ (w.alloc o).grownBy w' (some b) ∧ Q w')
    (F1 : ∀ w, Gl w → Calls Tryd.prog 47 #[.agg #[.int .u64 c1.mi, .int .u64 c1.ho, .int .u64 c1.da, .int .u64 c1.mo, .int .u64 c1.we, .bool c1.ad, .bool c1.aw], civ y m d h n k] w fun e w' => e = .returned (.bool false) ∧ w.grownBy w' none) (F4 : ∀ w, Gl w → Calls Tryd.prog 47 #[.agg #[.int .u64 c4.mi, .int .u64 c4.ho, .int .u64 c4.da, .int .u64 c4.mo, .int .u64 c4.we, .bool c4.ad, .bool c4.aw], civ y m d h n k] w fun e w' => e = .returned (.bool true) ∧ w.grownBy w' none) (F3 : ∀ w, Gl w → Calls Tryd.prog 47 #[.agg #[.int .u64 c3.mi, .int .u64 c3.ho, .int .u64 c3.da, .int .u64 c3.mo, .int .u64 c3.we, .bool c3.ad, .bool c3.aw], civ y m d h n k] w fun e w' => e = .returned (.bool true) ∧ w.grownBy w' none) (F2 : ∀ w, Gl w → Calls Tryd.prog 47 #[.agg #[.int .u64 c2.mi, .int .u64 c2.ho, .int .u64 c2.da, .int .u64 c2.mo, .int .u64 c2.we, .bool c2.ad, .bool c2.aw], civ y m d h n k] w fun e w' => e = .returned (.bool false) ∧ w.grownBy w' none)
    (g : Nat) (hg : g ≤ 64) (GA : ∀ w, Tb w → Calls Tryd.prog 48 #[.int .u64 c1.ho, .int .i64 h, .int .i64 24] w fun r w' => r = .returned (.int .i64 (g : Nat)) ∧ w' = w) :
    Calls Tryd.prog 36 #[seav b c1 c2 c3 c4, .int .i64 t] w fun e w' => e = .returned (.int .i64 ((g : Int) * 60 - n)) ∧ w.grownBy w' (some b) ∧ Q w' := by
  have hnot : ∀ (x : Bool) (w : World), (Op.unary .not (.bool x)).run Tryd.prog w = .ok (.bool (!x)) w := fun _ _ => rfl
  replace GK : Hid _ := GK
  go_enter Tryd.func36, Tryd.ntmps36
  have z0 := (Se.new w b c1 c2 c3 c4 63).z
  go_wp2_with (first
    | (go_at_call 46; go_must (refine (LO _).mono ?_); rintro e w1 ⟨rfl, hg1, hZ1⟩; have k1 : w.grownBy w1 (some b) := grown_more (World.grownBy_alloc w _ (some b)) hg1 (fun _ e => .inl e); have K2 := fun o => grown_alloc k1 o; have G2 := fun o => (GK.out _ (K2 o)).gl; have Z2 := fun o => QK _ _ hZ1 (World.grownBy_alloc w1 o none); have S1 := (Se.new w b c1 c2 c3 c4 _).kept hg1 (by simp; omega); have S2 := fun o => S1.kept (World.grownBy_alloc w1 o none) (by simp); have a0 := fun o => (S2 o).a0; have a1 := fun o => (S2 o).a1; have a2 := fun o => (S2 o).a2; have a3 := fun o => (S2 o).a3; have a4 := fun o => (S2 o).a4; have a5 := fun o => (S2 o).a5; have a6 := fun o => (S2 o).a6)
    | (go_at_call 47; with_reducible refine (F1 _ (G2 _)).mono ?_; rintro e w3 ⟨rfl, hg3⟩; have K3 := grown_more (K2 _) hg3 (by simp); have G3 := (GK.out _ K3).gl; have T3 := (GK.out _ K3).tb; have H3 := hg3; have S3 := (S2 _).kept hg3 (by simp); have Z3 := QK _ _ (Z2 _) hg3; have x30 := cell_kept H3 0 _ rfl; have x31 := cell_kept H3 1 _ rfl; have x32 := cell_kept H3 2 _ rfl; have x33 := cell_kept H3 3 _ rfl; have x34 := cell_kept H3 4 _ rfl; have x35 := cell_kept H3 5 _ rfl; have e0 := S3.e0; have e1 := S3.e1; have e2 := S3.e2; have e3 := S3.e3; have e4 := S3.e4; have e5 := S3.e5; have e6 := S3.e6)
    | (go_at_call 47; with_reducible refine (F4 _ G3).mono ?_; rintro e w4 ⟨rfl, hg4⟩; have K4 := grown_more K3 hg4 (by simp); have G4 := (GK.out _ K4).gl; have T4 := (GK.out _ K4).tb; have H4 := grown_more H3 hg4 (by simp); have S4 := S3.kept hg4 (by simp); have Z4 := QK _ _ Z3 hg4; have x40 := cell_kept H4 0 _ rfl; have x41 := cell_kept H4 1 _ rfl; have x42 := cell_kept H4 2 _ rfl; have x43 := cell_kept H4 3 _ rfl; have x44 := cell_kept H4 4 _ rfl; have x45 := cell_kept H4 5 _ rfl; have d0 := S4.d0; have d1 := S4.d1; have d2 := S4.d2; have d3 := S4.d3; have d4 := S4.d4; have d5 := S4.d5; have d6 := S4.d6)
    | (go_at_call 47; with_reducible refine (F3 _ G4).mono ?_; rintro e w5 ⟨rfl, hg5⟩; have K5 := grown_more K4 hg5 (by simp); have G5 := (GK.out _ K5).gl; have T5 := (GK.out _ K5).tb; have H5 := grown_more H4 hg5 (by simp); have S5 := S4.kept hg5 (by simp); have Z5 := QK _ _ Z4 hg5; have x50 := cell_kept H5 0 _ rfl; have x51 := cell_kept H5 1 _ rfl; have x52 := cell_kept H5 2 _ rfl; have x53 := cell_kept H5 3 _ rfl; have x54 := cell_kept H5 4 _ rfl; have x55 := cell_kept H5 5 _ rfl; have b0 := S5.b0; have b1 := S5.b1; have b2 := S5.b2; have b3 := S5.b3; have b4 := S5.b4; have b5 := S5.b5; have b6 := S5.b6)
    | (go_at_call 47; with_reducible refine (F2 _ G5).mono ?_; rintro e w6 ⟨rfl, hg6⟩; have K6 := grown_more K5 hg6 (by simp); have G6 := (GK.out _ K6).gl; have T6 := (GK.out _ K6).tb; have H6 := grown_more H5 hg6 (by simp); have S6 := S5.kept hg6 (by simp); have Z6 := QK _ _ Z5 hg6; have x60 := cell_kept H6 0 _ rfl; have x61 := cell_kept H6 1 _ rfl; have x62 := cell_kept H6 2 _ rfl; have x63 := cell_kept H6 3 _ rfl; have x64 := cell_kept H6 4 _ rfl; have x65 := cell_kept H6 5 _ rfl; have a0 := S6.a0; have a1 := S6.a1))
  have TN : ∀ n, Tb (w6.drewN n) := fun n j hj => T6 j hj
  go_quiet (first | (go_at_call 48; with_reducible refine Calls.quiet_of_same (GA _ (TN _))))
  go_wp2
  go_ret
  exact ⟨ret_int (by omega), grown_drewN K6 _, QK _ _ Z6 (grown_drewN (grown_refl _ none) _)⟩

set_option maxRecDepth 100000 in
set_option maxHeartbeats 1600000 in
theorem leap_min (c1 c2 c3 c4 : Cro.C) (b : Nat) (Q : World → Prop) (QK : ∀ v v', Q v → v.grownBy v' none → Q v') (t y m d h n k : Int) (hh1 : 0 ≤ h) (hh2 : h ≤ 23) (hn1 : 0 ≤ n) (hn2 : n ≤ 59) (hd1 : 1 ≤ d) (hd2 : d ≤ 31)
    (w : World) (hb : b < w.heap.size) (GK : ∀ v, w.grownBy v (some b) → Gd v)
    (LO : ∀ o, Calls Tryd.prog 46 #[.pointer (some ⟨b, 0, none⟩), .int .i64 t] (w.alloc o) fun e w' => e = .returned (.tuple #[civ y m d h n k, .int .i64 0]) ∧ (w.alloc o).grownBy w' (some b) ∧ Q w')
    (F1 : ∀ w, Gl w → Calls Tryd.prog 47 #[.agg #[.int .u64 c1.mi, .int .u64 c1.ho, .int .u64 c1.da, .int .u64 c1.mo, .int .u64 c1.we, .bool c1.ad, .bool c1.aw], civ y m d h n k] w fun e w' => e = .returned (.bool false) ∧ w.grownBy w' none) (F4 : ∀ w, Gl w → Calls Tryd.prog 47 #[.agg #[.int .u64 c4.mi, .int .u64 c4.ho, .int .u64 c4.da, .int .u64 c4.mo, .int .u64 c4.we, .bool c4.ad, .bool c4.aw], civ y m d h n k] w fun e w' => e = .returned (.bool true) ∧ w.grownBy w' none) (F3 : ∀ w, Gl w → Calls Tryd.prog 47 #[.agg #[.int .u64 c3.mi, .int .u64 c3.ho, .int .u64 c3.da, .int .u64 c3.mo, .int .u64 c3.we, .bool c3.ad, .bool c3.aw], civ y m d h n k] w fun e w' => e = .returned (.bool true) ∧ w.grownBy w' none) (F2 : ∀ w, Gl w → Calls Tryd.prog 47 #[.agg #[.int .u64 c2.mi, .int .u64 c2.ho, .int .u64 c2.da, .int .u64 c2.mo, .int .u64 c2.we, .bool c2.ad, .bool c2.aw], civ y m d h n k] w fun e w' => e = .returned (.bool true) ∧ w.grownBy w' none)
    (g : Nat) (hg : g ≤ 64) (GA : ∀ w, Tb w → Calls Tryd.prog 48 #[.int .u64 c1.mi, .int .i64 n, .int .i64 60] w fun r w' => r = .returned (.int .i64 (g : Nat)) ∧ w' = w) :
    Calls Tryd.prog 36 #[seav b c1 c2 c3 c4, .int .i64 t] w fun e w' => e = .returned (.int .i64 ((g : Int))) ∧ w.grownBy w' (some b) ∧ Q w' := by
  have hnot : ∀ (x : Bool) (w : World), (Op.unary .not (.bool x)).run Tryd.prog w = .ok (.bool (!x)) w := fun _ _ => rfl
  replace GK : Hid _ := GK
  go_enter Tryd.func36, Tryd.ntmps36
  have z0 := (Se.new w b c1 c2 c3 c4 63).z
  go_wp2_with (first
    | (go_at_call 46; go_must (refine (LO _).mono ?_); rintro e w1 ⟨rfl, hg1, hZ1⟩; have k1 : w.grownBy w1 (some b) := grown_more (World.grownBy_alloc w _ (some b)) hg1 (fun _ e => .inl e); have K2 := fun o => grown_alloc k1 o; have G2 := fun o => (GK.out _ (K2 o)).gl; have Z2 := fun o => QK _ _ hZ1 (World.grownBy_alloc w1 o none); have S1 := (Se.new w b c1 c2 c3 c4 _).kept hg1 (by simp; omega); have S2 := fun o => S1.kept (World.grownBy_alloc w1 o none) (by simp); have a0 := fun o => (S2 o).a0; have a1 := fun o => (S2 o).a1; have a2 := fun o => (S2 o).a2; have a3 := fun o => (S2 o).a3; have a4 := fun o => (S2 o).a4; have a5 := fun o => (S2 o).a5; have a6 := fun o => (S2 o).a6)
    | (go_at_call 47; with_reducible refine (F1 _ (G2 _)).mono ?_; rintro e w3 ⟨rfl, hg3⟩; have K3 := grown_more (K2 _) hg3 (by simp); have G3 := (GK.out _ K3).gl; have T3 := (GK.out _ K3).tb; have H3 := hg3; have S3 := (S2 _).kept hg3 (by simp); have Z3 := QK _ _ (Z2 _) hg3; have x30 := cell_kept H3 0 _ rfl; have x31 := cell_kept H3 1 _ rfl; have x32 := cell_kept H3 2 _ rfl; have x33 := cell_kept H3 3 _ rfl; have x34 := cell_kept H3 4 _ rfl; have x35 := cell_kept H3 5 _ rfl; have e0 := S3.e0; have e1 := S3.e1; have e2 := S3.e2; have e3 := S3.e3; have e4 := S3.e4; have e5 := S3.e5; have e6 := S3.e6)
    | (go_at_call 47; with_reducible refine (F4 _ G3).mono ?_; rintro e w4 ⟨rfl, hg4⟩; have K4 := grown_more K3 hg4 (by simp); have G4 := (GK.out _ K4).gl; have T4 := (GK.out _ K4).tb; have H4 := grown_more H3 hg4 (by simp); have S4 := S3.kept hg4 (by simp); have Z4 := QK _ _ Z3 hg4; have x40 := cell_kept H4 0 _ rfl; have x41 := cell_kept H4 1 _ rfl; have x42 := cell_kept H4 2 _ rfl; have x43 := cell_kept H4 3 _ rfl; have x44 := cell_kept H4 4 _ rfl; have x45 := cell_kept H4 5 _ rfl; have d0 := S4.d0; have d1 := S4.d1; have d2 := S4.d2; have d3 := S4.d3; have d4 := S4.d4; have d5 := S4.d5; have d6 := S4.d6)
    | (go_at_call 47; with_reducible refine (F3 _ G4).mono ?_; rintro e w5 ⟨rfl, hg5⟩; have K5 := grown_more K4 hg5 (by simp); have G5 := (GK.out _ K5).gl; have T5 := (GK.out _ K5).tb; have H5 := grown_more H4 hg5 (by simp); have S5 := S4.kept hg5 (by simp); have Z5 := QK _ _ Z4 hg5; have x50 := cell_kept H5 0 _ rfl; have x51 := cell_kept H5 1 _ rfl; have x52 := cell_kept H5 2 _ rfl; have x53 := cell_kept H5 3 _ rfl; have x54 := cell_kept H5 4 _ rfl; have x55 := cell_kept H5 5 _ rfl; have b0 := S5.b0; have b1 := S5.b1; have b2 := S5.b2; have b3 := S5.b3; have b4 := S5.b4; have b5 := S5.b5; have b6 := S5.b6)
    | (go_at_call 47; with_reducible refine (F2 _ G5).mono ?_; rintro e w6 ⟨rfl, hg6⟩; have K6 := grown_more K5 hg6 (by simp); have G6 := (GK.out _ K6).gl; have T6 := (GK.out _ K6).tb; have H6 := grown_more H5 hg6 (by simp); have S6 := S5.kept hg6 (by simp); have Z6 := QK _ _ Z5 hg6; have x60 := cell_kept H6 0 _ rfl; have x61 := cell_kept H6 1 _ rfl; have x62 := cell_kept H6 2 _ rfl; have x63 := cell_kept H6 3 _ rfl; have x64 := cell_kept H6 4 _ rfl; have x65 := cell_kept H6 5 _ rfl; have a0 := S6.a0; have a1 := S6.a1)
    | (go_at_call 48; go_must (refine (GA _ T6).mono ?_); rintro e w7 ⟨rfl, rfl⟩))
  go_ret
  exact ⟨ret_int (by omega), K6, Z6⟩

set_option maxRecDepth 100000 in
set_option maxHeartbeats 1600000 in
theorem leap_out (c1 c2 c3 c4 : Cro.C) (b : Nat) (Q : World → Prop) (QK : ∀ v v', Q v → v.grownBy v' none → Q v') (t y m d h n k er : Int) (her : er ≠ 0)
    (w : World) (hb : b < w.heap.size)
    (LO : ∀ o, Calls Tryd.prog 46 #[.pointer (some ⟨b, 0, none⟩), .int .i64 t] (w.alloc o) fun e w' => e = .returned (.tuple #[civ y m d h n k, .int .i64 er]) ∧ (w.alloc o).grownBy w' (some b) ∧ Q w') :
    Calls Tryd.prog 36 #[seav b c1 c2 c3 c4, .int .i64 t] w fun e w' => e = .returned (.int .i64 (1)) ∧ w.grownBy w' (some b) ∧ Q w' := by
  have h0 : (er != 0) = true := by simpa using her
  go_enter Tryd.func36, Tryd.ntmps36
  go_wp2_with (go_at_call 46; go_must (refine (LO _).mono ?_); rintro e w1 ⟨rfl, hg1, hZ1⟩)
  go_ret
  exact ⟨rfl, grown_alloc (grown_more (World.grownBy_alloc w _ (some b)) hg1 (fun _ e => .inl e)) _, QK _ _ hZ1 (World.grownBy_alloc w1 _ none)⟩
end Go.Proofs.YteiiapnpdfgoaaaDoor
