/- The statement on a minute, an hour or a month more: its walk. -/
import Derived.Test.YthjfecniipifhaaDoorKEither
namespace Go.Proofs.YthjfecniipifhaaDoor.Cro
def C.moreA (c : C) (b : Nat) : C := { c with mi := c.mi ||| 2 ^ b }
def C.moreB (c : C) (b : Nat) : C := { c with ho := c.ho ||| 2 ^ (b % 24) }
def C.moreD (c : C) (b : Nat) : C := { c with mo := c.mo ||| 2 ^ (1 + b % 12) }
theorem in0 : ∀ b, b ≤ 59 → 2 ^ b ||| (sp 0).full = (sp 0).full := by decide
theorem in1 : ∀ b, b ≤ 23 → 2 ^ b ||| (sp 1).full = (sp 1).full := by decide
theorem in3 : ∀ b, b ≤ 12 → 1 ≤ b → 2 ^ b ||| (sp 3).full = (sp 3).full := by decide
theorem okS_more {f : Sp} {x y : Nat} (h : okS f x) (hy : y ||| f.full = f.full) : okS f (x ||| y) :=
  ⟨fun e => h.1 (Nat.eq_zero_of_le_zero (by rw [← e]; exact Nat.left_le_or)), by rw [Nat.or_assoc, hy, h.2]⟩
theorem moreA_right {c : C} (h : c.right) {b : Nat} (hb : b ≤ 59) : (c.moreA b).right := ⟨⟨okS_more h.1.1 (in0 b hb), h.1.2⟩, h.2⟩
theorem moreB_right {c : C} (h : c.right) {b : Nat} : (c.moreB b).right := ⟨⟨h.1.1, okS_more h.1.2.1 (in1 _ (by omega)), h.1.2.2⟩, h.2⟩
theorem moreD_right {c : C} (h : c.right) {b : Nat} : (c.moreD b).right := ⟨⟨h.1.1, h.1.2.1, h.1.2.2.1, okS_more h.1.2.2.2.1 (in3 _ (by omega) (by omega)), h.1.2.2.2.2⟩, h.2⟩
theorem fits_parts {c : C} (hr : c.right) {y m d h n k : Int} : c.fits y m d h n k = true ↔ Mnt y m d h n k ∧ c.mi.testBit n.toNat = true ∧ c.ho.testBit h.toNat = true ∧ c.day m.toNat d.toNat k.toNat = true := by
  unfold C.fits
  rw [decide_eq_true hr]
  simp [Bool.and_eq_true, and_assoc]
theorem moreA_fits {c : C} (hr : c.right) {b : Nat} (hb : b ≤ 59) {y m d h n k : Int} (hf : c.fits y m d h n k = true) : (c.moreA b).fits y m d h n k = true := by
  rw [fits_parts hr] at hf
  rw [fits_parts (moreA_right hr hb)]
  refine ⟨hf.1, ?_, hf.2.2.1, hf.2.2.2⟩
  show (c.mi ||| 2 ^ b).testBit _ = true
  rw [Nat.testBit_or, hf.2.1]
  rfl
theorem moreB_fits {c : C} (hr : c.right) {b : Nat} {y m d h n k : Int} (hf : c.fits y m d h n k = true) : (c.moreB b).fits y m d h n k = true := by
  rw [fits_parts hr] at hf
  rw [fits_parts (moreB_right hr)]
  refine ⟨hf.1, hf.2.1, ?_, hf.2.2.2⟩
  show (c.ho ||| 2 ^ (b % 24)).testBit _ = true
  rw [Nat.testBit_or, hf.2.2.1]
  rfl
theorem moreD_fits {c : C} (hr : c.right) {b : Nat} {y m d h n k : Int} (hf : c.fits y m d h n k = true) : (c.moreD b).fits y m d h n k = true := by
  rw [fits_parts hr] at hf
  rw [fits_parts (moreD_right hr)]
  refine ⟨hf.1, hf.2.1, hf.2.2.1, ?_⟩
  have h4 := hf.2.2.2
  unfold C.day at h4 ⊢
  rw [Bool.and_eq_true] at h4 ⊢
  refine ⟨?_, h4.2⟩
  show (c.mo ||| 2 ^ (1 + b % 12)).testBit _ = true
  rw [Nat.testBit_or, h4.1]
  rfl
theorem or_lt64 {x y : Nat} (hx : x < 18446744073709551616) (hy : y < 64) : x ||| 2 ^ y < 18446744073709551616 := Nat.or_lt_two_pow (n := 64) hx (Nat.pow_lt_pow_right (by omega) hy)
end Go.Proofs.YthjfecniipifhaaDoor.Cro
namespace Go.Proofs.YthjfecniipifhaaDoor
open Go.RowKit
set_option linter.unusedVariables false

theorem kept_s {w w1 : World} {C : Array Value} {t : TypeId} {b : Nat} (hg : (w.alloc (.cells C t)).grownBy w1 none) (hb : b = w.heap.size) (i : Nat) (v : Value) (h : C[i]? = some v) : w1.cell? ⟨b, i, none⟩ = some v := by
  subst hb
  exact cell_kept hg i v h
/-- Three expressions laid one behind the other, in every later world. -/
def Tri (w v : World) (m0 m1 m2 m3 m4 x0 x1 x3 : Nat) (ad aw : Bool) : Prop :=
  (v.cell? ⟨w.heap.size, 0, none⟩ = some (.int .u64 x0) ∧ v.cell? ⟨w.heap.size, 1, none⟩ = some (.int .u64 m1) ∧ v.cell? ⟨w.heap.size, 2, none⟩ = some (.int .u64 m2) ∧ v.cell? ⟨w.heap.size, 3, none⟩ = some (.int .u64 m3) ∧ v.cell? ⟨w.heap.size, 4, none⟩ = some (.int .u64 m4) ∧ v.cell? ⟨w.heap.size, 5, none⟩ = some (.bool ad) ∧ v.cell? ⟨w.heap.size, 6, none⟩ = some (.bool aw)) ∧
  (v.cell? ⟨w.heap.size + 1, 0, none⟩ = some (.int .u64 m0) ∧ v.cell? ⟨w.heap.size + 1, 1, none⟩ = some (.int .u64 x1) ∧ v.cell? ⟨w.heap.size + 1, 2, none⟩ = some (.int .u64 m2) ∧ v.cell? ⟨w.heap.size + 1, 3, none⟩ = some (.int .u64 m3) ∧ v.cell? ⟨w.heap.size + 1, 4, none⟩ = some (.int .u64 m4) ∧ v.cell? ⟨w.heap.size + 1, 5, none⟩ = some (.bool ad) ∧ v.cell? ⟨w.heap.size + 1, 6, none⟩ = some (.bool aw)) ∧
  (v.cell? ⟨w.heap.size + 1 + 1, 0, none⟩ = some (.int .u64 m0) ∧ v.cell? ⟨w.heap.size + 1 + 1, 1, none⟩ = some (.int .u64 m1) ∧ v.cell? ⟨w.heap.size + 1 + 1, 2, none⟩ = some (.int .u64 m2) ∧ v.cell? ⟨w.heap.size + 1 + 1, 3, none⟩ = some (.int .u64 x3) ∧ v.cell? ⟨w.heap.size + 1 + 1, 4, none⟩ = some (.int .u64 m4) ∧ v.cell? ⟨w.heap.size + 1 + 1, 5, none⟩ = some (.bool ad) ∧ v.cell? ⟨w.heap.size + 1 + 1, 6, none⟩ = some (.bool aw))
theorem Tri.of {w v : World} {m0 m1 m2 m3 m4 x0 x1 x3 : Nat} {ad aw : Bool} {t : TypeId}
    (hg : (((w.alloc (.cells #[.int .u64 x0, .int .u64 m1, .int .u64 m2, .int .u64 m3, .int .u64 m4, .bool ad, .bool aw] t)).alloc (.cells #[.int .u64 m0, .int .u64 x1, .int .u64 m2, .int .u64 m3, .int .u64 m4, .bool ad, .bool aw] t)).alloc (.cells #[.int .u64 m0, .int .u64 m1, .int .u64 m2, .int .u64 x3, .int .u64 m4, .bool ad, .bool aw] t)).grownBy v none) : Tri w v m0 m1 m2 m3 m4 x0 x1 x3 ad aw := by
  have g2 := grown_more (World.grownBy_alloc _ _ none) hg (by simp)
  have g1 := grown_more (World.grownBy_alloc _ _ none) g2 (by simp)
  refine ⟨⟨cell_kept g1 0 _ rfl, cell_kept g1 1 _ rfl, cell_kept g1 2 _ rfl, cell_kept g1 3 _ rfl, cell_kept g1 4 _ rfl, cell_kept g1 5 _ rfl, cell_kept g1 6 _ rfl⟩, ⟨kept_s g2 (by simp) 0 _ rfl, kept_s g2 (by simp) 1 _ rfl, kept_s g2 (by simp) 2 _ rfl, kept_s g2 (by simp) 3 _ rfl, kept_s g2 (by simp) 4 _ rfl, kept_s g2 (by simp) 5 _ rfl, kept_s g2 (by simp) 6 _ rfl⟩, ⟨kept_s hg (by simp) 0 _ rfl, kept_s hg (by simp) 1 _ rfl, kept_s hg (by simp) 2 _ rfl, kept_s hg (by simp) 3 _ rfl, kept_s hg (by simp) 4 _ rfl, kept_s hg (by simp) 5 _ rfl, kept_s hg (by simp) 6 _ rfl⟩⟩

set_option maxRecDepth 100000 in
set_option maxHeartbeats 1600000 in
theorem more_by (m0 m1 m2 m3 m4 x0 x1 x3 : Nat) (ad aw : Bool) (y m d h n k : Int) (b : Nat) (hb : b ≤ 59)
    (e0 : bits BinOp.or IntKind.u64 (m0 : Int) (IntKind.u64.wrap (2 ^ b)) = (x0 : Int)) (e1 : bits BinOp.or IntKind.u64 (m1 : Int) (IntKind.u64.wrap (2 ^ (b % 24))) = (x1 : Int)) (e3 : bits BinOp.or IntKind.u64 (m3 : Int) (IntKind.u64.wrap (2 ^ (1 + b % 12))) = (x3 : Int))
    (CK : ∀ w, Gl w → Calls Tryd.prog 14 #[.agg #[.int .u64 m0, .int .u64 m1, .int .u64 m2, .int .u64 m3, .int .u64 m4, .bool ad, .bool aw]] w fun e w' => e = .returned (.bool true) ∧ w.grownBy w' none)
    (CA : ∀ w, Gl w → Calls Tryd.prog 14 #[.agg #[.int .u64 x0, .int .u64 m1, .int .u64 m2, .int .u64 m3, .int .u64 m4, .bool ad, .bool aw]] w fun e w' => e = .returned (.bool true) ∧ w.grownBy w' none)
    (CB : ∀ w, Gl w → Calls Tryd.prog 14 #[.agg #[.int .u64 m0, .int .u64 x1, .int .u64 m2, .int .u64 m3, .int .u64 m4, .bool ad, .bool aw]] w fun e w' => e = .returned (.bool true) ∧ w.grownBy w' none)
    (CD : ∀ w, Gl w → Calls Tryd.prog 14 #[.agg #[.int .u64 m0, .int .u64 m1, .int .u64 m2, .int .u64 x3, .int .u64 m4, .bool ad, .bool aw]] w fun e w' => e = .returned (.bool true) ∧ w.grownBy w' none)
    (F0 : ∀ w, Gl w → Calls Tryd.prog 16 #[.agg #[.int .u64 m0, .int .u64 m1, .int .u64 m2, .int .u64 m3, .int .u64 m4, .bool ad, .bool aw], civ y m d h n k] w fun e w' => e = .returned (.bool true) ∧ w.grownBy w' none)
    (FA : ∀ w, Gl w → Calls Tryd.prog 16 #[.agg #[.int .u64 x0, .int .u64 m1, .int .u64 m2, .int .u64 m3, .int .u64 m4, .bool ad, .bool aw], civ y m d h n k] w fun e w' => e = .returned (.bool true) ∧ w.grownBy w' none)
    (FB : ∀ w, Gl w → Calls Tryd.prog 16 #[.agg #[.int .u64 m0, .int .u64 x1, .int .u64 m2, .int .u64 m3, .int .u64 m4, .bool ad, .bool aw], civ y m d h n k] w fun e w' => e = .returned (.bool true) ∧ w.grownBy w' none)
    (FD : ∀ w, Gl w → Calls Tryd.prog 16 #[.agg #[.int .u64 m0, .int .u64 m1, .int .u64 m2, .int .u64 x3, .int .u64 m4, .bool ad, .bool aw], civ y m d h n k] w fun e w' => e = .returned (.bool true) ∧ w.grownBy w' none)
    (w : World) (hG : Gl w) :
    Calls Tryd.prog 8 #[.agg #[.int .u64 m0, .int .u64 m1, .int .u64 m2, .int .u64 m3, .int .u64 m4, .bool ad, .bool aw], .int .i64 b, civ y m d h n k] w fun e w' => e = .returned (.bool true) ∧ w.grownBy w' none := by
  have AW := awake_any
  obtain ⟨W0, hW0⟩ : ∃ W0, W0 = (w.alloc (.cells #[.int .u64 m0, .int .u64 m1, .int .u64 m2, .int .u64 m3, .int .u64 m4, .bool ad, .bool aw] 25)).alloc (.cells #[.int .i64 y, .int .i64 m, .int .i64 d, .int .i64 h, .int .i64 n, .int .i64 k] 36) := ⟨_, rfl⟩
  have TW : Hid (∀ w2, W0.grownBy w2 none → Two w w2 m0 m1 m2 m3 m4 ad aw y m d h n k) := fun w2 hg => by subst hW0; exact Two.of hg
  have GG : Hid (∀ w2, W0.grownBy w2 none → Gl w2) := fun w2 hg => by subst hW0; exact hG.kept (grown_more (grown_alloc (World.grownBy_alloc w _ none) _) hg (by simp))
  have WW : Hid (∀ w2, W0.grownBy w2 none → w.grownBy w2 none) := fun w2 hg => by subst hW0; exact grown_more (grown_alloc (World.grownBy_alloc w _ none) _) hg (by simp)
  have G0 := GG.out _ (grown_refl _ _)
  clear hG
  go_enter Tryd.func8, Tryd.ntmps8
  go_wp2_with (first
    | (rw [← hW0]; go_at_call 9; go_must (refine (AW _ G0).mono ?_); rintro e w1 ⟨rfl, hg1⟩; have g1 := GG.out _ hg1; obtain ⟨⟨a0, a1, a2, a3, a4, a5, a6⟩, _⟩ := TW.out _ hg1)
    | (go_at_call 14; (with_reducible refine (CK _ g1).mono ?_); rintro e w2 ⟨rfl, hg2⟩; clear a0 a1 a2 a3 a4 a5 a6; have hg3 := grown_more hg1 hg2 (by simp); have g3 := GG.out _ hg3; obtain ⟨⟨a0, a1, a2, a3, a4, a5, a6⟩, d0, d1, d2, d3, d4, d5⟩ := TW.out _ hg3)
    | (go_at_call 16; (with_reducible refine (F0 _ g3).mono ?_); rintro e w4 ⟨rfl, hg4⟩; clear a0 a1 a2 a3 a4 a5 a6 d0 d1 d2 d3 d4 d5; have hg5 := grown_more hg3 hg4 (by simp); obtain ⟨⟨a0, a1, a2, a3, a4, a5, a6⟩, _⟩ := TW.out _ hg5; have K1 := fun o => grown_alloc hg5 o; have K2 := fun o o' => grown_alloc (grown_alloc hg5 o) o'; have K3 := fun o o' o'' => grown_alloc (grown_alloc (grown_alloc hg5 o) o') o''; have b0 := fun o => (TW.out _ (K1 o)).1.1; have b1 := fun o => (TW.out _ (K1 o)).1.2.1; have b2 := fun o => (TW.out _ (K1 o)).1.2.2.1; have b3 := fun o => (TW.out _ (K1 o)).1.2.2.2.1; have b4 := fun o => (TW.out _ (K1 o)).1.2.2.2.2.1; have b5 := fun o => (TW.out _ (K1 o)).1.2.2.2.2.2.1; have b6 := fun o => (TW.out _ (K1 o)).1.2.2.2.2.2.2; have c0 := fun o o' => (TW.out _ (K2 o o')).1.1; have c1 := fun o o' => (TW.out _ (K2 o o')).1.2.1; have c2 := fun o o' => (TW.out _ (K2 o o')).1.2.2.1; have c3 := fun o o' => (TW.out _ (K2 o o')).1.2.2.2.1; have c4 := fun o o' => (TW.out _ (K2 o o')).1.2.2.2.2.1; have c5 := fun o o' => (TW.out _ (K2 o o')).1.2.2.2.2.2.1; have c6 := fun o o' => (TW.out _ (K2 o o')).1.2.2.2.2.2.2)
    | (go_at_call 14; (with_reducible refine (CA _ (GG.out _ (K3 _ _ _))).mono ?_); rintro e w6 ⟨rfl, hg6⟩; clear a0 a1 a2 a3 a4 a5 a6 b0 b1 b2 b3 b4 b5 b6 c0 c1 c2 c3 c4 c5 c6; have hg7 := grown_more (K3 _ _ _) hg6 (by simp); have T7 := Tri.of hg6; have g7 := GG.out _ hg7; obtain ⟨_, ⟨p0, p1, p2, p3, p4, p5, p6⟩, _⟩ := T7)
    | (go_at_call 14; (with_reducible refine (CB _ g7).mono ?_); rintro e w8 ⟨rfl, hg8⟩; clear p0 p1 p2 p3 p4 p5 p6; have h8 := grown_more hg6 hg8 (by simp); have hg9 := grown_more hg7 hg8 (by simp); have g9 := GG.out _ hg9; have T9 := Tri.of h8; obtain ⟨_, _, ⟨p0, p1, p2, p3, p4, p5, p6⟩⟩ := T9)
    | (go_at_call 14; (with_reducible refine (CD _ g9).mono ?_); rintro e w10 ⟨rfl, hg10⟩; clear p0 p1 p2 p3 p4 p5 p6; have h10 := grown_more h8 hg10 (by simp); have hg11 := grown_more hg9 hg10 (by simp); have g11 := GG.out _ hg11; have T11 := Tri.of h10; obtain ⟨⟨p0, p1, p2, p3, p4, p5, p6⟩, _⟩ := T11; obtain ⟨_, d0, d1, d2, d3, d4, d5⟩ := TW.out _ hg11)
    | (go_at_call 16; (with_reducible refine (FA _ g11).mono ?_); rintro e w12 ⟨rfl, hg12⟩; clear p0 p1 p2 p3 p4 p5 p6 d0 d1 d2 d3 d4 d5; have h12 := grown_more h10 hg12 (by simp); have hg13 := grown_more hg11 hg12 (by simp); have g13 := GG.out _ hg13; have T13 := Tri.of h12; obtain ⟨_, ⟨p0, p1, p2, p3, p4, p5, p6⟩, _⟩ := T13; obtain ⟨_, d0, d1, d2, d3, d4, d5⟩ := TW.out _ hg13)
    | (go_at_call 16; (with_reducible refine (FB _ g13).mono ?_); rintro e w14 ⟨rfl, hg14⟩; clear p0 p1 p2 p3 p4 p5 p6 d0 d1 d2 d3 d4 d5; have h14 := grown_more h12 hg14 (by simp); have hg15 := grown_more hg13 hg14 (by simp); have g15 := GG.out _ hg15; have T15 := Tri.of h14; obtain ⟨_, _, ⟨p0, p1, p2, p3, p4, p5, p6⟩⟩ := T15; obtain ⟨_, d0, d1, d2, d3, d4, d5⟩ := TW.out _ hg15)
    | (go_at_call 16; (with_reducible refine (FD _ g15).mono ?_); rintro e w16 ⟨rfl, hg16⟩))
  go_ret
  exact ⟨rfl, WW.out _ (grown_more hg15 hg16 (by simp))⟩

set_option maxRecDepth 100000 in
set_option maxHeartbeats 1600000 in
/-- .. where there is nothing to ask. -/
theorem more_not (m0 m1 m2 m3 m4 : Nat) (ad aw : Bool) (y m d h n k b : Int) (r f0 : Bool) (hno : b < 0 ∨ 59 < b ∨ r = false ∨ f0 = false)
    (CK : ∀ w, Gl w → Calls Tryd.prog 14 #[.agg #[.int .u64 m0, .int .u64 m1, .int .u64 m2, .int .u64 m3, .int .u64 m4, .bool ad, .bool aw]] w fun e w' => e = .returned (.bool r) ∧ w.grownBy w' none)
    (F0 : ∀ w, Gl w → Calls Tryd.prog 16 #[.agg #[.int .u64 m0, .int .u64 m1, .int .u64 m2, .int .u64 m3, .int .u64 m4, .bool ad, .bool aw], civ y m d h n k] w fun e w' => e = .returned (.bool f0) ∧ w.grownBy w' none)
    (w : World) (hG : Gl w) :
    Calls Tryd.prog 8 #[.agg #[.int .u64 m0, .int .u64 m1, .int .u64 m2, .int .u64 m3, .int .u64 m4, .bool ad, .bool aw], .int .i64 b, civ y m d h n k] w fun e w' => e = .returned (.bool true) ∧ w.grownBy w' none := by
  have AW := awake_any
  obtain ⟨W0, hW0⟩ : ∃ W0, W0 = (w.alloc (.cells #[.int .u64 m0, .int .u64 m1, .int .u64 m2, .int .u64 m3, .int .u64 m4, .bool ad, .bool aw] 25)).alloc (.cells #[.int .i64 y, .int .i64 m, .int .i64 d, .int .i64 h, .int .i64 n, .int .i64 k] 36) := ⟨_, rfl⟩
  have TW : Hid (∀ w2, W0.grownBy w2 none → Two w w2 m0 m1 m2 m3 m4 ad aw y m d h n k) := fun w2 hg => by subst hW0; exact Two.of hg
  have GG : Hid (∀ w2, W0.grownBy w2 none → Gl w2) := fun w2 hg => by subst hW0; exact hG.kept (grown_more (grown_alloc (World.grownBy_alloc w _ none) _) hg (by simp))
  have WW : Hid (∀ w2, W0.grownBy w2 none → w.grownBy w2 none) := fun w2 hg => by subst hW0; exact grown_more (grown_alloc (World.grownBy_alloc w _ none) _) hg (by simp)
  have G0 := GG.out _ (grown_refl _ _)
  clear hG
  by_cases h1 : b < 0
  · have z1 : decide (b < 0) = true := decide_eq_true h1
    clear hno CK F0
    go_enter Tryd.func8, Tryd.ntmps8
    go_wp2_with (rw [← hW0]; go_at_call 9; go_must (refine (AW _ G0).mono ?_); rintro e w1 ⟨rfl, hg1⟩)
    go_ret
    exact ⟨rfl, WW.out _ hg1⟩
  · have z1 : decide (b < 0) = false := decide_eq_false h1
    by_cases h2 : 59 < b
    · have z2 : decide (59 < b) = true := decide_eq_true h2
      clear hno CK F0
      go_enter Tryd.func8, Tryd.ntmps8
      go_wp2_with (rw [← hW0]; go_at_call 9; go_must (refine (AW _ G0).mono ?_); rintro e w1 ⟨rfl, hg1⟩)
      go_ret
      exact ⟨rfl, WW.out _ hg1⟩
    · have z2 : decide (59 < b) = false := decide_eq_false h2
      cases r with
      | false =>
        clear hno F0
        go_enter Tryd.func8, Tryd.ntmps8
        go_wp2_with (first
          | (rw [← hW0]; go_at_call 9; go_must (refine (AW _ G0).mono ?_); rintro e w1 ⟨rfl, hg1⟩; obtain ⟨⟨a0, a1, a2, a3, a4, a5, a6⟩, _⟩ := TW.out _ hg1)
          | (go_at_call 14; go_must (refine (CK _ (GG.out _ hg1)).mono ?_); rintro e w2 ⟨rfl, hg2⟩))
        go_ret
        exact ⟨rfl, WW.out _ (grown_more hg1 hg2 (by simp))⟩
      | true =>
        obtain rfl : f0 = false := by rcases hno with h | h | h | h; omega; omega; cases h; exact h
        clear hno
        go_enter Tryd.func8, Tryd.ntmps8
        go_wp2_with (first
          | (rw [← hW0]; go_at_call 9; go_must (refine (AW _ G0).mono ?_); rintro e w1 ⟨rfl, hg1⟩; obtain ⟨⟨a0, a1, a2, a3, a4, a5, a6⟩, _⟩ := TW.out _ hg1)
          | (go_at_call 14; go_must (refine (CK _ (GG.out _ hg1)).mono ?_); rintro e w2 ⟨rfl, hg2⟩; clear a0 a1 a2 a3 a4 a5 a6; have hg3 := grown_more hg1 hg2 (by simp); obtain ⟨⟨a0, a1, a2, a3, a4, a5, a6⟩, d0, d1, d2, d3, d4, d5⟩ := TW.out _ hg3)
          | (go_at_call 16; go_must (refine (F0 _ (GG.out _ hg3)).mono ?_); rintro e w4 ⟨rfl, hg4⟩))
        go_ret
        exact ⟨rfl, WW.out _ (grown_more hg3 hg4 (by simp))⟩
theorem moreA_ok {c : Cro.C} (h : c.ok) {b : Nat} (hb : b ≤ 59) : (c.moreA b).ok := ⟨Cro.or_lt64 h.mi (by omega), h.ho, h.da, h.mo, h.we⟩
theorem moreB_ok {c : Cro.C} (h : c.ok) (b : Nat) : (c.moreB b).ok := ⟨h.mi, Cro.or_lt64 h.ho (by omega), h.da, h.mo, h.we⟩
theorem moreD_ok {c : Cro.C} (h : c.ok) (b : Nat) : (c.moreD b).ok := ⟨h.mi, h.ho, h.da, Cro.or_lt64 h.mo (by omega), h.we⟩
theorem cronMore.walk (W : World) (hG : Gl W) (v0 : Value) (o0 : ∃ c : Cro.C, v0 = crv c ∧ c.ok) (b : Int) (wb : (Lit.int .i64 b).wf = true) (v1 : Value) (o1 : ∃ y m d h n k, v1 = civ y m d h n k) :
    Calls Tryd.prog 8 #[v0, .int .i64 b, v1] W fun e W' => e = .returned (.bool true) ∧ Below W.heap.size W W' := by
  obtain ⟨c, rfl, hc⟩ := o0
  obtain ⟨y, m, d, h, n, k, rfl⟩ := o1
  have fin : Calls Tryd.prog 8 #[crv c, .int .i64 b, civ y m d h n k] W fun e W' => e = .returned (.bool true) ∧ W.grownBy W' none := by
    have CK := fun w hG => Check_any c hc w hG
    have F0 := fun w hG => Fits_any c hc y m d h n k w hG
    by_cases hno : b < 0 ∨ 59 < b ∨ decide c.right = false ∨ c.fits y m d h n k = false
    · exact more_not c.mi c.ho c.da c.mo c.we c.ad c.aw y m d h n k b _ _ hno CK F0 W hG
    · have hb0 : ¬ b < 0 := fun e => hno (.inl e)
      have hb1 : ¬ 59 < b := fun e => hno (.inr (.inl e))
      have hr : c.right := by
        by_cases e : c.right
        · exact e
        · exact absurd (.inr (.inr (.inl (decide_eq_false e)))) hno
      have hf : c.fits y m d h n k = true := by
        cases e : c.fits y m d h n k
        · exact absurd (.inr (.inr (.inr e))) hno
        · rfl
      obtain ⟨B, rfl⟩ : ∃ B : Nat, b = B := ⟨b.toNat, by omega⟩
      have hB : B ≤ 59 := by omega
      rw [decide_eq_true hr] at CK
      rw [hf] at F0
      have C1 := fun w hG => Check_any (c.moreA B) (moreA_ok hc hB) w hG
      have C2 := fun w hG => Check_any (c.moreB B) (moreB_ok hc B) w hG
      have C3 := fun w hG => Check_any (c.moreD B) (moreD_ok hc B) w hG
      have F1 := fun w hG => Fits_any (c.moreA B) (moreA_ok hc hB) y m d h n k w hG
      have F2 := fun w hG => Fits_any (c.moreB B) (moreB_ok hc B) y m d h n k w hG
      have F3 := fun w hG => Fits_any (c.moreD B) (moreD_ok hc B) y m d h n k w hG
      rw [decide_eq_true (Cro.moreA_right hr hB)] at C1
      rw [decide_eq_true (Cro.moreB_right hr)] at C2
      rw [decide_eq_true (Cro.moreD_right hr)] at C3
      rw [Cro.moreA_fits hr hB hf] at F1
      rw [Cro.moreB_fits hr hf] at F2
      rw [Cro.moreD_fits hr hf] at F3
      exact more_by c.mi c.ho c.da c.mo c.we (c.mi ||| 2 ^ B) (c.ho ||| 2 ^ (B % 24)) (c.mo ||| 2 ^ (1 + B % 12)) c.ad c.aw y m d h n k B hB (or_bit _ _ hc.mi (by omega)) (or_bit _ _ hc.ho (by omega)) (or_bit _ _ hc.mo (by omega)) CK C1 C2 C3 F0 F1 F2 F3 W hG
  refine fin.mono ?_
  rintro e W' ⟨rfl, hg⟩
  exact ⟨rfl, grown_below hg⟩
end Go.Proofs.YthjfecniipifhaaDoor
