/- The statement on days and weekdays: its walk. -/
import Derived.Test.YthjfecniipifhaaDoorKAwake
namespace Go.Proofs.YthjfecniipifhaaDoor.Cro
def C.days (c : C) : C := { c with we := (sp 4).full, aw := true }
def C.weeks (c : C) : C := { c with da := (sp 2).full, ad := true }
theorem days_right {c : C} (h : c.right) : c.days.right := ⟨⟨h.1.1, h.1.2.1, h.1.2.2.1, h.1.2.2.2.1, (by decide : okS (sp 4) (sp 4).full)⟩, h.2.1, fun _ => rfl⟩
theorem weeks_right {c : C} (h : c.right) : c.weeks.right := ⟨⟨h.1.1, h.1.2.1, (by decide : okS (sp 2) (sp 2).full), h.1.2.2.2.1, h.1.2.2.2.2⟩, fun _ => rfl, h.2.2⟩
theorem full_week : ∀ k, k ≤ 6 → (sp 4).full.testBit k = true := by decide
theorem full_day : ∀ d, d ≤ 31 → 1 ≤ d → (sp 2).full.testBit d = true := by decide
theorem fits_no {c : C} (h : ¬ c.right) (y m d h' n k : Int) : c.fits y m d h' n k = false := by
  unfold C.fits
  rw [decide_eq_false h]
  simp
theorem either {c : C} (h : c.right) (y m d h' n k : Int) :
    c.fits y m d h' n k = (if c.ad || c.aw then c.days.fits y m d h' n k && c.weeks.fits y m d h' n k else c.days.fits y m d h' n k || c.weeks.fits y m d h' n k) := by
  unfold C.fits
  rw [decide_eq_true h, decide_eq_true (days_right h), decide_eq_true (weeks_right h)]
  by_cases hM : Mnt y m d h' n k
  · obtain ⟨M, D, H, N, K, rfl, rfl, rfl, rfl, rfl, l1, l2, l3, l4, l5⟩ := mnt_nat hM
    have hD : 1 ≤ D := by have := hM.1.1; omega
    have e4 := full_week K l5
    have e2 := full_day D l2 hD
    rw [decide_eq_true hM]
    simp only [Int.toNat_natCast, Bool.true_and, C.day, C.days, C.weeks, e4, e2]
    cases c.ad <;> cases c.aw <;> cases c.mi.testBit N <;> cases c.ho.testBit H <;> cases c.mo.testBit M <;> cases c.da.testBit D <;> cases c.we.testBit K <;> rfl
  · rw [decide_eq_false hM]
    simp
end Go.Proofs.YthjfecniipifhaaDoor.Cro
namespace Go.Proofs.YthjfecniipifhaaDoor
open Go.RowKit
set_option linter.unusedVariables false

/-- '* * * * *'. -/
theorem parse_all : parV (Cro.parse [42, 32, 42, 32, 42, 32, 42, 32, 42]) = .tuple #[.agg #[.int .u64 1152921504606846975, .int .u64 16777215, .int .u64 4294967294, .int .u64 8190, .int .u64 127, .bool true, .bool true], .int .i64 0, .int .i64 0] := by kernel_rfl
theorem days_ok {c : Cro.C} (h : c.ok) : c.days.ok := ⟨h.mi, h.ho, h.da, h.mo, Cro.full_lt 4⟩
theorem weeks_ok {c : Cro.C} (h : c.ok) : c.weeks.ok := ⟨h.mi, h.ho, Cro.full_lt 2, h.mo, h.we⟩

/-- An expression and a minute, boxed one behind the other: their cells in every later world. -/
def Two (w w2 : World) (m0 m1 m2 m3 m4 : Nat) (ad aw : Bool) (y m d h n k : Int) : Prop :=
  (w2.cell? ⟨w.heap.size, 0, none⟩ = some (.int .u64 m0) ∧ w2.cell? ⟨w.heap.size, 1, none⟩ = some (.int .u64 m1) ∧ w2.cell? ⟨w.heap.size, 2, none⟩ = some (.int .u64 m2) ∧ w2.cell? ⟨w.heap.size, 3, none⟩ = some (.int .u64 m3) ∧ w2.cell? ⟨w.heap.size, 4, none⟩ = some (.int .u64 m4) ∧ w2.cell? ⟨w.heap.size, 5, none⟩ = some (.bool ad) ∧ w2.cell? ⟨w.heap.size, 6, none⟩ = some (.bool aw)) ∧
  (w2.cell? ⟨w.heap.size + 1, 0, none⟩ = some (.int .i64 y) ∧ w2.cell? ⟨w.heap.size + 1, 1, none⟩ = some (.int .i64 m) ∧ w2.cell? ⟨w.heap.size + 1, 2, none⟩ = some (.int .i64 d) ∧ w2.cell? ⟨w.heap.size + 1, 3, none⟩ = some (.int .i64 h) ∧ w2.cell? ⟨w.heap.size + 1, 4, none⟩ = some (.int .i64 n) ∧ w2.cell? ⟨w.heap.size + 1, 5, none⟩ = some (.int .i64 k))
theorem Two.of {w w2 : World} {m0 m1 m2 m3 m4 : Nat} {ad aw : Bool} {y m d h n k : Int} {t u : TypeId}
    (hg : ((w.alloc (.cells #[.int .u64 m0, .int .u64 m1, .int .u64 m2, .int .u64 m3, .int .u64 m4, .bool ad, .bool aw] t)).alloc (.cells #[.int .i64 y, .int .i64 m, .int .i64 d, .int .i64 h, .int .i64 n, .int .i64 k] u)).grownBy w2 none) : Two w w2 m0 m1 m2 m3 m4 ad aw y m d h n k :=
  ⟨⟨kept_a hg 0 _ rfl, kept_a hg 1 _ rfl, kept_a hg 2 _ rfl, kept_a hg 3 _ rfl, kept_a hg 4 _ rfl, kept_a hg 5 _ rfl, kept_a hg 6 _ rfl⟩, ⟨kept_b hg 0 _ rfl, kept_b hg 1 _ rfl, kept_b hg 2 _ rfl, kept_b hg 3 _ rfl, kept_b hg 4 _ rfl, kept_b hg 5 _ rfl⟩⟩

set_option maxRecDepth 100000 in
set_option maxHeartbeats 1600000 in
theorem either_by (m0 m1 m2 m3 m4 : Nat) (ad aw : Bool) (y m d h n k : Int) (r f0 fa fb : Bool) (hr : r = false → f0 = false) (hf : r = true → f0 = (if ad || aw then fa && fb else fa || fb))
    (CK : ∀ w, Gl w → Calls Tryd.prog 14 #[.agg #[.int .u64 m0, .int .u64 m1, .int .u64 m2, .int .u64 m3, .int .u64 m4, .bool ad, .bool aw]] w fun e w' => e = .returned (.bool r) ∧ w.grownBy w' none)
    (F0 : ∀ w, Gl w → Calls Tryd.prog 16 #[.agg #[.int .u64 m0, .int .u64 m1, .int .u64 m2, .int .u64 m3, .int .u64 m4, .bool ad, .bool aw], civ y m d h n k] w fun e w' => e = .returned (.bool f0) ∧ w.grownBy w' none)
    (FA : ∀ w, Gl w → Calls Tryd.prog 16 #[.agg #[.int .u64 m0, .int .u64 m1, .int .u64 m2, .int .u64 m3, .int .u64 127, .bool ad, .bool true], civ y m d h n k] w fun e w' => e = .returned (.bool fa) ∧ w.grownBy w' none)
    (FB : ∀ w, Gl w → Calls Tryd.prog 16 #[.agg #[.int .u64 m0, .int .u64 m1, .int .u64 4294967294, .int .u64 m3, .int .u64 m4, .bool true, .bool aw], civ y m d h n k] w fun e w' => e = .returned (.bool fb) ∧ w.grownBy w' none)
    (w : World) (hG : Gl w) :
    Calls Tryd.prog 7 #[.agg #[.int .u64 m0, .int .u64 m1, .int .u64 m2, .int .u64 m3, .int .u64 m4, .bool ad, .bool aw], civ y m d h n k] w fun e w' => e = .returned (.bool true) ∧ w.grownBy w' none := by
  have AW := awake_any
  have PS : ∀ w, Gl w → Calls Tryd.prog 10 #[.string ⟨#[42, 32, 42, 32, 42, 32, 42, 32, 42]⟩] w fun e w' => e = .returned (.tuple #[.agg #[.int .u64 1152921504606846975, .int .u64 16777215, .int .u64 4294967294, .int .u64 8190, .int .u64 127, .bool true, .bool true], .int .i64 0, .int .i64 0]) ∧ w.grownBy w' none := fun w hG => by
    have := Parse_any ⟨#[42, 32, 42, 32, 42, 32, 42, 32, 42]⟩ w hG
    rw [show parV (Cro.parse (⟨#[42, 32, 42, 32, 42, 32, 42, 32, 42]⟩ : ByteArray).data.toList) = _ from parse_all] at this
    exact this
  obtain ⟨W0, hW0⟩ : ∃ W0, W0 = (w.alloc (.cells #[.int .u64 m0, .int .u64 m1, .int .u64 m2, .int .u64 m3, .int .u64 m4, .bool ad, .bool aw] 25)).alloc (.cells #[.int .i64 y, .int .i64 m, .int .i64 d, .int .i64 h, .int .i64 n, .int .i64 k] 36) := ⟨_, rfl⟩
  have TW : Hid (∀ w2, W0.grownBy w2 none → Two w w2 m0 m1 m2 m3 m4 ad aw y m d h n k) := fun w2 hg => by subst hW0; exact Two.of hg
  have GG : Hid (∀ w2, W0.grownBy w2 none → Gl w2) := fun w2 hg => by subst hW0; exact hG.kept (grown_more (grown_alloc (World.grownBy_alloc w _ none) _) hg (by simp))
  have WW : Hid (∀ w2, W0.grownBy w2 none → w.grownBy w2 none) := fun w2 hg => by subst hW0; exact grown_more (grown_alloc (World.grownBy_alloc w _ none) _) hg (by simp)
  have G0 := GG.out _ (grown_refl _ _)
  cases r with
  | false =>
    obtain rfl := hr rfl
    clear hf hr hG FA FB
    go_enter Tryd.func7, Tryd.ntmps7
    go_wp2_with (first
      | (rw [← hW0]; go_at_call 9; go_must (refine (AW _ G0).mono ?_); rintro e w1 ⟨rfl, hg1⟩)
      | (go_at_call 10; go_must (refine (PS _ (GG.out _ hg1)).mono ?_); rintro e w2 ⟨rfl, hg2⟩; have hg3 := fun o => grown_alloc (grown_more hg1 hg2 (by simp)) o; have a0 := fun o => (TW.out _ (hg3 o)).1.1; have a1 := fun o => (TW.out _ (hg3 o)).1.2.1; have a2 := fun o => (TW.out _ (hg3 o)).1.2.2.1; have a3 := fun o => (TW.out _ (hg3 o)).1.2.2.2.1; have a4 := fun o => (TW.out _ (hg3 o)).1.2.2.2.2.1; have a5 := fun o => (TW.out _ (hg3 o)).1.2.2.2.2.2.1; have a6 := fun o => (TW.out _ (hg3 o)).1.2.2.2.2.2.2)
      | (go_at_call 14; go_must (refine (CK _ (GG.out _ (hg3 _))).mono ?_); rintro e w4 ⟨rfl, hg4⟩; have hg5 := grown_more (hg3 _) hg4 (by simp); obtain ⟨⟨e0, e1, e2, e3, e4, e5, e6⟩, d0, d1, d2, d3, d4, d5⟩ := TW.out _ hg5)
      | (go_at_call 16; go_must (refine (F0 _ (GG.out _ hg5)).mono ?_); rintro e w6 ⟨rfl, hg6⟩))
    go_ret
    exact ⟨rfl, WW.out _ (grown_more hg5 hg6 (by simp))⟩
  | true =>
    obtain rfl := hf rfl
    clear hf hr hG
    have tok : True := trivial
    have tok2 : True := trivial
    cases ad <;> cases aw <;> cases fa
    all_goals
      go_enter Tryd.func7, Tryd.ntmps7
      go_wp2_with (first
        | (rw [← hW0]; go_at_call 9; go_must (refine (AW _ G0).mono ?_); rintro e w1 ⟨rfl, hg1⟩)
        | (go_at_call 10; go_must (refine (PS _ (GG.out _ hg1)).mono ?_); rintro e w2 ⟨rfl, hg2⟩; have hg3 := fun o => grown_alloc (grown_more hg1 hg2 (by simp)) o; have a0 := fun o => (TW.out _ (hg3 o)).1.1; have a1 := fun o => (TW.out _ (hg3 o)).1.2.1; have a2 := fun o => (TW.out _ (hg3 o)).1.2.2.1; have a3 := fun o => (TW.out _ (hg3 o)).1.2.2.2.1; have a4 := fun o => (TW.out _ (hg3 o)).1.2.2.2.2.1; have a5 := fun o => (TW.out _ (hg3 o)).1.2.2.2.2.2.1; have a6 := fun o => (TW.out _ (hg3 o)).1.2.2.2.2.2.2)
        | (go_at_call 14; go_must (refine (CK _ (GG.out _ (hg3 _))).mono ?_); rintro e w4 ⟨rfl, hg4⟩; have hg5 := grown_more (hg3 _) hg4 (by simp); clear a0 a1 a2 a3 a4 a5 a6; have K5 := fun o => grown_alloc hg5 o; have K6 := fun o o' => grown_alloc (grown_alloc hg5 o) o'; obtain ⟨⟨p0, p1, p2, p3, p4, p5, p6⟩, _⟩ := TW.out _ hg5; have a0 := fun o => (TW.out _ (K5 o)).1.1; have a1 := fun o => (TW.out _ (K5 o)).1.2.1; have a2 := fun o => (TW.out _ (K5 o)).1.2.2.1; have a3 := fun o => (TW.out _ (K5 o)).1.2.2.2.1; have a4 := fun o => (TW.out _ (K5 o)).1.2.2.2.2.1; have a5 := fun o => (TW.out _ (K5 o)).1.2.2.2.2.2.1; have a6 := fun o => (TW.out _ (K5 o)).1.2.2.2.2.2.2; have d0 := fun o o' => (TW.out _ (K6 o o')).2.1; have d1 := fun o o' => (TW.out _ (K6 o o')).2.2.1; have d2 := fun o o' => (TW.out _ (K6 o o')).2.2.2.1; have d3 := fun o o' => (TW.out _ (K6 o o')).2.2.2.2.1; have d4 := fun o o' => (TW.out _ (K6 o o')).2.2.2.2.2.1; have d5 := fun o o' => (TW.out _ (K6 o o')).2.2.2.2.2.2; have b4 := fun o => cell_kept (grown_alloc hg4 o) 4 _ rfl; have b2 := fun o o' => cell_kept (grown_alloc (grown_alloc hg4 o) o') 2 _ rfl)
        | (go_at_call 16; have _t := tok; go_must (refine (FA _ (GG.out _ (K6 _ _))).mono ?_); rintro e w6 ⟨rfl, hg6⟩; clear tok; have hg7 := grown_more (K6 _ _) hg6 (by simp); have q0 := kept_b hg6 0 _ rfl; have q1 := kept_b hg6 1 _ rfl; have q2 := kept_b hg6 2 _ rfl; have q3 := kept_b hg6 3 _ rfl; have q4 := kept_b hg6 4 _ rfl; have q5 := kept_b hg6 5 _ rfl; have q6 := kept_b hg6 6 _ rfl; obtain ⟨_, e0, e1, e2, e3, e4, e5⟩ := TW.out _ hg7)
        | (go_at_call 16; have _t := tok2; go_must (refine (FB _ (GG.out _ hg7)).mono ?_); rintro e w8 ⟨rfl, hg8⟩; clear tok2; have hg9 := grown_more hg7 hg8 (by simp); obtain ⟨⟨r0, r1, r2, r3, r4, r5, r6⟩, g0, g1, g2, g3, g4, g5⟩ := TW.out _ hg9)
        | (go_at_call 16; go_must (refine (F0 _ (GG.out _ hg9)).mono ?_); rintro e w10 ⟨rfl, hg10⟩))
      go_ret
      exact ⟨ret_bool (by simp), WW.out _ (grown_more hg9 hg10 (by simp))⟩

theorem cronEither.walk (W : World) (hG : Gl W) (v0 : Value) (o0 : ∃ c : Cro.C, v0 = crv c ∧ c.ok) (v1 : Value) (o1 : ∃ y m d h n k, v1 = civ y m d h n k) :
    Calls Tryd.prog 7 #[v0, v1] W fun e W' => e = .returned (.bool true) ∧ Below W.heap.size W W' := by
  obtain ⟨c, rfl, hc⟩ := o0
  obtain ⟨y, m, d, h, n, k, rfl⟩ := o1
  refine (either_by c.mi c.ho c.da c.mo c.we c.ad c.aw y m d h n k (decide c.right) (c.fits y m d h n k) (c.days.fits y m d h n k) (c.weeks.fits y m d h n k)
    (fun hr => Cro.fits_no (of_decide_eq_false hr) _ _ _ _ _ _) (fun hr => Cro.either (of_decide_eq_true hr) _ _ _ _ _ _)
    (fun w hG => Check_any c hc w hG) (fun w hG => Fits_any c hc y m d h n k w hG) (fun w hG => Fits_any c.days (days_ok hc) y m d h n k w hG) (fun w hG => Fits_any c.weeks (weeks_ok hc) y m d h n k w hG) W hG).mono ?_
  rintro e W' ⟨rfl, hg⟩
  exact ⟨rfl, grown_below hg⟩
end Go.Proofs.YthjfecniipifhaaDoor
