/- What 'isMinute', 'Fits' answer. -/
import Derived.Test.YteiiapnpdfgoaaaDoorKCheck
namespace Go.Proofs.YteiiapnpdfgoaaaDoor
open Go.RowKit
set_option linter.unusedVariables false

/-- Is it a minute by the calendar, with whatever weekday? -/
abbrev Mnt (y m d h n k : Int) : Prop := Thr y m d h n ∧ 0 ≤ k ∧ k ≤ 6

set_option maxRecDepth 100000 in
set_option maxHeartbeats 400000 in
theorem isMinute_any (y m d h n k : Int) (w : World) (hG : Gl w) :
    Calls Tryd.prog 55 #[civ y m d h n k] w fun e w' => e = .returned (.bool (decide (Mnt y m d h n k))) ∧ w.grownBy w' none := by
  have HS : Hid (∀ w', w.grownBy w' none → w'.cell? ⟨0, 12, none⟩ = some (.int .i64 0) ∧ w'.cell? ⟨0, 14, none⟩ = some (.int .i64 6)) := fun w' g => ⟨((hG.kept g).s 4 (by omega)).1, ((hG.kept g).s 4 (by omega)).2.2⟩
  by_cases hT : Thr y m d h n
  · have T := to_ok y m d h n k hT
    generalize inst y m d h n = I at T
    by_cases h1 : 0 ≤ k
    · by_cases h2 : k ≤ 6
      · rw [decide_eq_true (show Mnt y m d h n k from ⟨hT, h1, h2⟩)]
        clear hT
        go_enter Tryd.func55, Tryd.ntmps55
        go_wp2_with (go_at_call 15; go_must (refine (T _).mono ?_); rintro e w1 ⟨rfl, hg⟩; have c5 := cell_kept hg 5 _ rfl; have hgg := grown_more (World.grownBy_alloc w _ none) hg (by simp); obtain ⟨s0, s2⟩ := HS.out _ hgg)
        go_ret
        exact ⟨rfl, hgg⟩
      · rw [decide_eq_false (show ¬ Mnt y m d h n k from fun x => h2 x.2.2)]
        have z : decide (k ≤ 6) = false := decide_eq_false h2
        clear hT
        go_enter Tryd.func55, Tryd.ntmps55
        go_wp2_with (go_at_call 15; go_must (refine (T _).mono ?_); rintro e w1 ⟨rfl, hg⟩; have c5 := cell_kept hg 5 _ rfl; have hgg := grown_more (World.grownBy_alloc w _ none) hg (by simp); obtain ⟨s0, s2⟩ := HS.out _ hgg)
        go_ret
        exact ⟨rfl, hgg⟩
    · rw [decide_eq_false (show ¬ Mnt y m d h n k from fun x => h1 x.2.1)]
      have z : decide (0 ≤ k) = false := decide_eq_false h1
      clear hT
      go_enter Tryd.func55, Tryd.ntmps55
      go_wp2_with (go_at_call 15; go_must (refine (T _).mono ?_); rintro e w1 ⟨rfl, hg⟩; have c5 := cell_kept hg 5 _ rfl; have hgg := grown_more (World.grownBy_alloc w _ none) hg (by simp); obtain ⟨s0, s2⟩ := HS.out _ hgg)
      go_ret
      exact ⟨rfl, hgg⟩
  · have T := to_bad y m d h n k hT
    rw [decide_eq_false (show ¬ Mnt y m d h n k from fun x => hT x.1)]
    clear hT
    go_enter Tryd.func55, Tryd.ntmps55
    go_wp2_with (go_at_call 15; go_must (refine (T _).mono ?_); rintro e w1 ⟨rfl, hg⟩; have c5 := cell_kept hg 5 _ rfl; have hgg := grown_more (World.grownBy_alloc w _ none) hg (by simp); obtain ⟨s0, s2⟩ := HS.out _ hgg)
    go_ret
    exact ⟨rfl, hgg⟩

end Go.Proofs.YteiiapnpdfgoaaaDoor
namespace Go.Proofs.YteiiapnpdfgoaaaDoor.Cro
/-- Does an expression that is right fit a day? -/
def C.day (c : C) (m d k : Nat) : Bool := c.mo.testBit m && (if c.ad || c.aw then c.da.testBit d && c.we.testBit k else c.da.testBit d || c.we.testBit k)
/-- Does an expression fit a minute? -/
def C.fits (c : C) (y m d h n k : Int) : Bool := decide c.right && decide (Mnt y m d h n k) && c.mi.testBit n.toNat && c.ho.testBit h.toNat && c.day m.toNat d.toNat k.toNat
end Go.Proofs.YteiiapnpdfgoaaaDoor.Cro
namespace Go.Proofs.YteiiapnpdfgoaaaDoor
open Go.RowKit
theorem mnt_nat {y m d h n k : Int} (h0 : Mnt y m d h n k) : ∃ M D H N K : Nat, m = M ∧ d = D ∧ h = H ∧ n = N ∧ k = K ∧ M ≤ 12 ∧ D ≤ 31 ∧ H ≤ 23 ∧ N ≤ 59 ∧ K ≤ 6 := by
  obtain ⟨⟨t1, t2, t3, t4, t5, t6⟩, k1, k2⟩ := h0
  obtain ⟨hy1, hy2, hm1, hm2⟩ := Civ.of_dys (y := y) (m := m) (by omega)
  rw [Civ.dys_in hy1 hy2 hm1 hm2] at t2
  have hdm := Civ.dim_bd y m
  exact ⟨m.toNat, d.toNat, h.toNat, n.toNat, k.toNat, by omega, by omega, by omega, by omega, by omega, by omega, by omega, by omega, by omega, by omega⟩

set_option maxRecDepth 100000 in
set_option maxHeartbeats 400000 in
theorem Fits_no (c : Cro.C) (y m d h n k : Int) (hno : ¬ (c.right ∧ Mnt y m d h n k)) (hc : c.ok) (w : World) (hG : Gl w) :
    Calls Tryd.prog 47 #[crv c, civ y m d h n k] w fun e w' => e = .returned (.bool false) ∧ w.grownBy w' none := by
  have CK := Check_any c hc
  have IM := isMinute_any y m d h n k
  have G2 : ∀ o o', Gl ((w.alloc o).alloc o') := fun o o' => hG.kept (grown_alloc (World.grownBy_alloc w o none) o')
  by_cases hr : c.right
  · have hm : ¬ Mnt y m d h n k := fun x => hno ⟨hr, x⟩
    rw [decide_eq_true hr] at CK
    rw [decide_eq_false hm] at IM
    clear hno hr hm
    go_enter Tryd.func47, Tryd.ntmps47
    go_wp2_with (first
      | (go_at_call 7; go_must (refine (CK _ (G2 _ _)).mono ?_); rintro e w1 ⟨rfl, hg⟩; have g1 := (G2 _ _).kept hg; have c0 := kept_b hg 0 _ rfl; have c1 := kept_b hg 1 _ rfl; have c2 := kept_b hg 2 _ rfl; have c3 := kept_b hg 3 _ rfl; have c4 := kept_b hg 4 _ rfl; have c5 := kept_b hg 5 _ rfl)
      | (go_at_call 55; go_must (refine (IM _ g1).mono ?_); rintro e w2 ⟨rfl, hg2⟩))
    go_ret
    exact ⟨rfl, grown_more (grown_alloc (World.grownBy_alloc w _ none) _) (grown_more hg hg2 (by simp)) (by simp)⟩
  · rw [decide_eq_false hr] at CK
    clear hno hr
    go_enter Tryd.func47, Tryd.ntmps47
    go_wp2_with (go_at_call 7; go_must (refine (CK _ (G2 _ _)).mono ?_); rintro e w1 ⟨rfl, hg⟩)
    go_ret
    exact ⟨rfl, grown_more (grown_alloc (World.grownBy_alloc w _ none) _) hg (by simp)⟩

set_option maxRecDepth 100000 in
set_option maxHeartbeats 1600000 in
/-- 'Fits' of what is right, by what 'has' says of each field. -/
theorem Fits_by (c : Cro.C) (y : Int) (M D H N K : Nat) (b1 b2 b3 b4 b5 : Bool)
    (CK : ∀ w, Gl w → Calls Tryd.prog 7 #[crv c] w fun e w' => e = .returned (.bool true) ∧ w.grownBy w' none)
    (IM : ∀ w, Gl w → Calls Tryd.prog 55 #[civ y M D H N K] w fun e w' => e = .returned (.bool true) ∧ w.grownBy w' none)
    (H1 : ∀ w, Calls Tryd.prog 56 #[.int .u64 c.mi, .int .i64 N] w fun e w' => e = .returned (.bool b1) ∧ w' = w)
    (H2 : ∀ w, Calls Tryd.prog 56 #[.int .u64 c.ho, .int .i64 H] w fun e w' => e = .returned (.bool b2) ∧ w' = w)
    (H3 : ∀ w, Calls Tryd.prog 56 #[.int .u64 c.mo, .int .i64 M] w fun e w' => e = .returned (.bool b3) ∧ w' = w)
    (H4 : ∀ w, Calls Tryd.prog 56 #[.int .u64 c.da, .int .i64 D] w fun e w' => e = .returned (.bool b4) ∧ w' = w)
    (H5 : ∀ w, Calls Tryd.prog 56 #[.int .u64 c.we, .int .i64 K] w fun e w' => e = .returned (.bool b5) ∧ w' = w) (w : World) (hG : Gl w) :
    Calls Tryd.prog 47 #[crv c, civ y M D H N K] w fun e w' => e = .returned (.bool (b1 && (b2 && (b3 && (if c.ad || c.aw then b4 && b5 else b4 || b5))))) ∧ w.grownBy w' none := by
  obtain ⟨m0, m1, m2, m3, m4, ad, aw⟩ := c
  simp only at CK H1 H2 H3 H4 H5 ⊢
  have G2 : ∀ o o', Gl ((w.alloc o).alloc o') := fun o o' => hG.kept (grown_alloc (World.grownBy_alloc w o none) o')
  have KA : Hid (∀ w2, (((w.alloc (.cells #[.int .u64 m0, .int .u64 m1, .int .u64 m2, .int .u64 m3, .int .u64 m4, .bool ad, .bool aw] 24)).alloc (.cells #[.int .i64 y, .int .i64 M, .int .i64 D, .int .i64 H, .int .i64 N, .int .i64 K] 44))).grownBy w2 none →
      (w2.cell? ⟨w.heap.size, 0, none⟩ = some (.int .u64 m0) ∧ w2.cell? ⟨w.heap.size, 1, none⟩ = some (.int .u64 m1) ∧ w2.cell? ⟨w.heap.size, 2, none⟩ = some (.int .u64 m2) ∧ w2.cell? ⟨w.heap.size, 3, none⟩ = some (.int .u64 m3) ∧ w2.cell? ⟨w.heap.size, 4, none⟩ = some (.int .u64 m4) ∧ w2.cell? ⟨w.heap.size, 5, none⟩ = some (.bool ad) ∧ w2.cell? ⟨w.heap.size, 6, none⟩ = some (.bool aw)) ∧
      (w2.cell? ⟨w.heap.size + 1, 1, none⟩ = some (.int .i64 M) ∧ w2.cell? ⟨w.heap.size + 1, 2, none⟩ = some (.int .i64 D) ∧ w2.cell? ⟨w.heap.size + 1, 3, none⟩ = some (.int .i64 H) ∧ w2.cell? ⟨w.heap.size + 1, 4, none⟩ = some (.int .i64 N) ∧ w2.cell? ⟨w.heap.size + 1, 5, none⟩ = some (.int .i64 K))) := fun w2 hg =>
    ⟨⟨kept_a hg 0 _ rfl, kept_a hg 1 _ rfl, kept_a hg 2 _ rfl, kept_a hg 3 _ rfl, kept_a hg 4 _ rfl, kept_a hg 5 _ rfl, kept_a hg 6 _ rfl⟩, ⟨kept_b hg 1 _ rfl, kept_b hg 2 _ rfl, kept_b hg 3 _ rfl, kept_b hg 4 _ rfl, kept_b hg 5 _ rfl⟩⟩
  cases b1 with
  | false =>
    go_enter Tryd.func47, Tryd.ntmps47
    go_wp2_with (first
      | (go_at_call 7; go_must (refine (CK _ (G2 _ _)).mono ?_); rintro e w1 ⟨rfl, hg⟩; have g1 := (G2 _ _).kept hg; have c0 := kept_b hg 0 _ rfl; have c1 := kept_b hg 1 _ rfl; have c2 := kept_b hg 2 _ rfl; have c3 := kept_b hg 3 _ rfl; have c4 := kept_b hg 4 _ rfl; have c5 := kept_b hg 5 _ rfl)
      | (go_at_call 55; go_must (refine (IM _ g1).mono ?_); rintro e w2 ⟨rfl, hg2⟩; have hg3 := grown_more hg hg2 (by simp); clear c0 c1 c2 c3 c4 c5; obtain ⟨⟨a0, a1, a2, a3, a4, a5, a6⟩, ⟨d1, d2, d3, d4, d5⟩⟩ := KA.out _ hg3)
      | (go_at_call 56; with_reducible refine (H1 _).mono ?_; rintro e w3 ⟨rfl, rfl⟩)
      | (go_at_call 56; with_reducible refine (H2 _).mono ?_; rintro e w3 ⟨rfl, rfl⟩)
      | (go_at_call 56; with_reducible refine (H3 _).mono ?_; rintro e w3 ⟨rfl, rfl⟩))
    all_goals
      go_ret
      exact ⟨rfl, grown_more (grown_alloc (World.grownBy_alloc w _ none) _) hg3 (by simp)⟩
  | true =>
    cases b2 with
    | false =>
      go_enter Tryd.func47, Tryd.ntmps47
      go_wp2_with (first
        | (go_at_call 7; go_must (refine (CK _ (G2 _ _)).mono ?_); rintro e w1 ⟨rfl, hg⟩; have g1 := (G2 _ _).kept hg; have c0 := kept_b hg 0 _ rfl; have c1 := kept_b hg 1 _ rfl; have c2 := kept_b hg 2 _ rfl; have c3 := kept_b hg 3 _ rfl; have c4 := kept_b hg 4 _ rfl; have c5 := kept_b hg 5 _ rfl)
        | (go_at_call 55; go_must (refine (IM _ g1).mono ?_); rintro e w2 ⟨rfl, hg2⟩; have hg3 := grown_more hg hg2 (by simp); clear c0 c1 c2 c3 c4 c5; obtain ⟨⟨a0, a1, a2, a3, a4, a5, a6⟩, ⟨d1, d2, d3, d4, d5⟩⟩ := KA.out _ hg3)
        | (go_at_call 56; with_reducible refine (H1 _).mono ?_; rintro e w3 ⟨rfl, rfl⟩)
        | (go_at_call 56; with_reducible refine (H2 _).mono ?_; rintro e w3 ⟨rfl, rfl⟩)
        | (go_at_call 56; with_reducible refine (H3 _).mono ?_; rintro e w3 ⟨rfl, rfl⟩))
      all_goals
        go_ret
        exact ⟨rfl, grown_more (grown_alloc (World.grownBy_alloc w _ none) _) hg3 (by simp)⟩
    | true =>
      cases b3 with
      | false =>
        go_enter Tryd.func47, Tryd.ntmps47
        go_wp2_with (first
          | (go_at_call 7; go_must (refine (CK _ (G2 _ _)).mono ?_); rintro e w1 ⟨rfl, hg⟩; have g1 := (G2 _ _).kept hg; have c0 := kept_b hg 0 _ rfl; have c1 := kept_b hg 1 _ rfl; have c2 := kept_b hg 2 _ rfl; have c3 := kept_b hg 3 _ rfl; have c4 := kept_b hg 4 _ rfl; have c5 := kept_b hg 5 _ rfl)
          | (go_at_call 55; go_must (refine (IM _ g1).mono ?_); rintro e w2 ⟨rfl, hg2⟩; have hg3 := grown_more hg hg2 (by simp); clear c0 c1 c2 c3 c4 c5; obtain ⟨⟨a0, a1, a2, a3, a4, a5, a6⟩, ⟨d1, d2, d3, d4, d5⟩⟩ := KA.out _ hg3)
          | (go_at_call 56; with_reducible refine (H1 _).mono ?_; rintro e w3 ⟨rfl, rfl⟩)
          | (go_at_call 56; with_reducible refine (H2 _).mono ?_; rintro e w3 ⟨rfl, rfl⟩)
          | (go_at_call 56; with_reducible refine (H3 _).mono ?_; rintro e w3 ⟨rfl, rfl⟩))
        all_goals
          go_ret
          exact ⟨rfl, grown_more (grown_alloc (World.grownBy_alloc w _ none) _) hg3 (by simp)⟩
      | true =>
        cases ad <;> cases aw <;> cases b4
        all_goals
          go_enter Tryd.func47, Tryd.ntmps47
          go_wp2_with (first
            | (go_at_call 7; go_must (refine (CK _ (G2 _ _)).mono ?_); rintro e w1 ⟨rfl, hg⟩; have g1 := (G2 _ _).kept hg; have c0 := kept_b hg 0 _ rfl; have c1 := kept_b hg 1 _ rfl; have c2 := kept_b hg 2 _ rfl; have c3 := kept_b hg 3 _ rfl; have c4 := kept_b hg 4 _ rfl; have c5 := kept_b hg 5 _ rfl)
            | (go_at_call 55; go_must (refine (IM _ g1).mono ?_); rintro e w2 ⟨rfl, hg2⟩; have hg3 := grown_more hg hg2 (by simp); clear c0 c1 c2 c3 c4 c5; obtain ⟨⟨a0, a1, a2, a3, a4, a5, a6⟩, ⟨d1, d2, d3, d4, d5⟩⟩ := KA.out _ hg3)
            | (go_at_call 56; with_reducible refine (H1 _).mono ?_; rintro e w3 ⟨rfl, rfl⟩)
            | (go_at_call 56; with_reducible refine (H2 _).mono ?_; rintro e w3 ⟨rfl, rfl⟩)
            | (go_at_call 56; with_reducible refine (H3 _).mono ?_; rintro e w3 ⟨rfl, rfl⟩))
          go_quiet (first | (go_at_call 56; with_reducible refine Calls.quiet_of_same (H4 _)) | (go_at_call 56; with_reducible refine Calls.quiet_of_same (H5 _)))
          go_wp2
          go_ret
          exact ⟨rfl, grown_drewN (grown_more (grown_alloc (World.grownBy_alloc w _ none) _) hg3 (by simp)) _⟩

theorem Fits_any (c : Cro.C) (hc : c.ok) (y m d h n k : Int) (w : World) (hG : Gl w) :
    Calls Tryd.prog 47 #[crv c, civ y m d h n k] w fun e w' => e = .returned (.bool (c.fits y m d h n k)) ∧ w.grownBy w' none := by
  by_cases hb : c.right ∧ Mnt y m d h n k
  · obtain ⟨M, D, H, N, K, rfl, rfl, rfl, rfl, rfl, l1, l2, l3, l4, l5⟩ := mnt_nat hb.2
    have CK := Check_any c hc
    have IM := isMinute_any y M D H N K
    rw [decide_eq_true hb.1] at CK
    rw [decide_eq_true hb.2] at IM
    have := Fits_by c y M D H N K _ _ _ _ _ CK IM (has_any c.mi N hc.mi (by omega)) (has_any c.ho H hc.ho (by omega)) (has_any c.mo M hc.mo (by omega)) (has_any c.da D hc.da (by omega)) (has_any c.we K hc.we (by omega)) w hG
    have e : c.fits y M D H N K = (c.mi.testBit N && (c.ho.testBit H && (c.mo.testBit M && (if c.ad || c.aw then c.da.testBit D && c.we.testBit K else c.da.testBit D || c.we.testBit K)))) := by
      unfold Cro.C.fits Cro.C.day
      rw [decide_eq_true hb.1, decide_eq_true hb.2]
      simp only [Int.toNat_natCast, Bool.true_and, Bool.and_assoc]
    rw [e]
    exact this
  · have e : c.fits y m d h n k = false := by
      unfold Cro.C.fits
      by_cases h1 : c.right
      · rw [decide_eq_false (fun x => hb ⟨h1, x⟩)]
        simp
      · rw [decide_eq_false h1]
        simp
    rw [e]
    exact Fits_no c y m d h n k hb hc w hG
end Go.Proofs.YteiiapnpdfgoaaaDoor
