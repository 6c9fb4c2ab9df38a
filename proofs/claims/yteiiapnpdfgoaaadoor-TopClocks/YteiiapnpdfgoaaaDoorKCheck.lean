/- What 'setsOf', 'Check', 'isAny' answer. -/
import Derived.Test.YteiiapnpdfgoaaaDoorKWhole
import Derived.Laws.BitsAllLaws
import Derived.Deep.QuietTactic
import Derived.BigQuiet
namespace Go.Proofs.YteiiapnpdfgoaaaDoor.Cro
/-- The i-th set. -/
def C.set (c : C) : Nat → Nat
  | 0 => c.mi
  | 1 => c.ho
  | 2 => c.da
  | 3 => c.mo
  | _ => c.we
/-- Every set is one of 64 bits. -/
structure C.ok (c : C) : Prop where
  mi : c.mi < 18446744073709551616
  ho : c.ho < 18446744073709551616
  da : c.da < 18446744073709551616
  mo : c.mo < 18446744073709551616
  we : c.we < 18446744073709551616
theorem C.ok.set {c : C} (h : c.ok) (i : Nat) : c.set i < 18446744073709551616 := by
  unfold C.set
  split
  · exact h.mi
  · exact h.ho
  · exact h.da
  · exact h.mo
  · exact h.we
/-- A field's set is right. -/
abbrev okS (f : Sp) (x : Nat) : Prop := x ≠ 0 ∧ x ||| f.full = f.full
/-- An expression is right. -/
abbrev C.right (c : C) : Prop := (okS (sp 0) c.mi ∧ okS (sp 1) c.ho ∧ okS (sp 2) c.da ∧ okS (sp 3) c.mo ∧ okS (sp 4) c.we) ∧ (c.ad = true → c.da = (sp 2).full) ∧ (c.aw = true → c.we = (sp 4).full)
theorem full_lt (i : Nat) : (sp i).full < 18446744073709551616 := by
  unfold sp
  split <;> decide
theorem andNot_zero (x F : Nat) (hx : x < 18446744073709551616) (hF : F < 18446744073709551616) : x &&& (18446744073709551615 - F) = 0 ↔ x ||| F = F := by
  have e : ∀ i, i < 64 → (18446744073709551615 - F).testBit i = !F.testBit i := fun i hi => by
    have := Nat.testBit_two_pow_sub_succ (n := 64) (x := F) (by omega) i
    rw [show (2 : Nat) ^ 64 - (F + 1) = 18446744073709551615 - F by omega] at this
    simp [this, hi]
  have big : ∀ i, 64 ≤ i → x.testBit i = false := fun i hi => Nat.testBit_lt_two_pow (Nat.lt_of_lt_of_le hx (Nat.pow_le_pow_right (n := 2) (by omega) hi))
  constructor
  · intro h
    apply Nat.eq_of_testBit_eq
    intro i
    have h' := congrArg (fun z => z.testBit i) h
    simp only [Nat.testBit_and, Nat.zero_testBit] at h'
    rw [Nat.testBit_or]
    by_cases hi : i < 64
    · rw [e i hi] at h'
      cases hx' : x.testBit i <;> cases hF' : F.testBit i <;> simp_all
    · rw [big i (by omega)]
      simp
  · intro h
    apply Nat.eq_of_testBit_eq
    intro i
    have h' := congrArg (fun z => z.testBit i) h
    simp only [Nat.testBit_or] at h'
    rw [Nat.testBit_and, Nat.zero_testBit]
    by_cases hi : i < 64
    · rw [e i hi]
      cases hx' : x.testBit i <;> cases hF' : F.testBit i <;> simp_all
    · rw [big i (by omega)]
      simp
end Go.Proofs.YteiiapnpdfgoaaaDoor.Cro
namespace Go.Proofs.YteiiapnpdfgoaaaDoor
open Go.RowKit
set_option linter.unusedVariables false

theorem andNot_test (x F : Nat) (hx : x < 18446744073709551616) (hF : F < 18446744073709551616) : (bits BinOp.andNot IntKind.u64 (x : Int) (F : Int) != 0) = !decide (x ||| F = F) := by
  have h := Cro.andNot_zero x F hx hF
  rw [u64_andNot_nat x F hx hF]
  by_cases c : x ||| F = F
  · rw [h.mpr c]
    simp [c]
  · have : x &&& (18446744073709551615 - F) ≠ 0 := fun e => c (h.mp e)
    simp only [c, decide_false, Bool.not_false]
    simp
    omega

/-- An expression in memory. -/
structure CrAt (w : World) (b : Nat) (c : Cro.C) : Prop where
  c0 : w.cell? ⟨b, 0, none⟩ = some (.int .u64 c.mi)
  c1 : w.cell? ⟨b, 1, none⟩ = some (.int .u64 c.ho)
  c2 : w.cell? ⟨b, 2, none⟩ = some (.int .u64 c.da)
  c3 : w.cell? ⟨b, 3, none⟩ = some (.int .u64 c.mo)
  c4 : w.cell? ⟨b, 4, none⟩ = some (.int .u64 c.we)
  c5 : w.cell? ⟨b, 5, none⟩ = some (.bool c.ad)
  c6 : w.cell? ⟨b, 6, none⟩ = some (.bool c.aw)
theorem CrAt.kept {w w' : World} {b : Nat} {c : Cro.C} (h : CrAt w b c) (g : w.grownBy w' none) : CrAt w' b c :=
  ⟨g.cell h.c0 (by simp), g.cell h.c1 (by simp), g.cell h.c2 (by simp), g.cell h.c3 (by simp), g.cell h.c4 (by simp), g.cell h.c5 (by simp), g.cell h.c6 (by simp)⟩
theorem CrAt.new (w : World) (c : Cro.C) (t : TypeId) : CrAt (w.alloc (.cells #[.int .u64 c.mi, .int .u64 c.ho, .int .u64 c.da, .int .u64 c.mo, .int .u64 c.we, .bool c.ad, .bool c.aw] t)) w.heap.size c :=
  ⟨cell_kept (grown_refl _ _) 0 _ rfl, cell_kept (grown_refl _ _) 1 _ rfl, cell_kept (grown_refl _ _) 2 _ rfl, cell_kept (grown_refl _ _) 3 _ rfl, cell_kept (grown_refl _ _) 4 _ rfl, cell_kept (grown_refl _ _) 5 _ rfl, cell_kept (grown_refl _ _) 6 _ rfl⟩

abbrev fiv (c : Cro.C) : Value := .agg #[.int .u64 c.mi, .int .u64 c.ho, .int .u64 c.da, .int .u64 c.mo, .int .u64 c.we]
set_option maxRecDepth 100000 in
theorem setsOf_any (c : Cro.C) (w : World) :
    Calls Tryd.prog 18 #[crv c] w fun e w' => e = .returned (fiv c) ∧ w.grownBy w' none := by
  obtain ⟨m0, m1, m2, m3, m4, b5, b6⟩ := c
  go_enter Tryd.func18, Tryd.ntmps18
  go_wp2
  go_returns
  exact ⟨rfl, grown_alloc (World.grownBy_alloc w _ none) _⟩
theorem ix0 (c : Cro.C) (w : World) : (Instr.index 56 (fiv c) (.int .i64 0)).run Tryd.prog w = .ok (.int .u64 (c.mi : Nat)) w := by kernel_rfl
theorem ix1 (c : Cro.C) (w : World) : (Instr.index 56 (fiv c) (.int .i64 1)).run Tryd.prog w = .ok (.int .u64 (c.ho : Nat)) w := by kernel_rfl
theorem ix2 (c : Cro.C) (w : World) : (Instr.index 56 (fiv c) (.int .i64 2)).run Tryd.prog w = .ok (.int .u64 (c.da : Nat)) w := by kernel_rfl
theorem ix3 (c : Cro.C) (w : World) : (Instr.index 56 (fiv c) (.int .i64 3)).run Tryd.prog w = .ok (.int .u64 (c.mo : Nat)) w := by kernel_rfl
theorem ix4 (c : Cro.C) (w : World) : (Instr.index 56 (fiv c) (.int .i64 4)).run Tryd.prog w = .ok (.int .u64 (c.we : Nat)) w := by kernel_rfl
theorem index_five (c : Cro.C) (k : Nat) (hk : k < 5) (w : World) : (Instr.index 56 (fiv c) (.int .i64 (k : Int))).run Tryd.prog w = .ok (.int .u64 (c.set k : Nat)) w := by
  match k, hk with
  | 0, _ => exact ix0 c w
  | 1, _ => exact ix1 c w
  | 2, _ => exact ix2 c w
  | 3, _ => exact ix3 c w
  | 4, _ => exact ix4 c w
/-- A region that draws and whose calls make memory alone, walked once, in any class of worlds. -/
theorem wp_region_quiet_at {P : Program} {C : World → Prop} {id : Nat} {Q : Exit → Act → World → Prop} {a : Act} {w : World} {l : List Oper} (hm : P.follows .mixedOrders = true) (hB : Region.lexB .any l.toArray = true)
    (hC : C (w.drewN 1)) (h : wpQuiet P l.toArray C (fun a' => ∀ w', C w' → Q .normal a' w') l a) : (Code.region id l.toArray true).wp P Q a w :=
  wp_region_quiet (C := C) hm hB hC (by simpa using h)
/-- A world, grown out of w, in which an expression lies in the block b. -/
structure KW (w : World) (b : Nat) (c : Cro.C) where
  now : World
  good : CrAt now b c
  gl : Gl now
  grown : w.grownBy now none
theorem KW.call {P : Program} {w : World} {b : Nat} {c : Cro.C} {x : KW w b c} {f : FuncId} {args : Array Value} {v : Value}
    (k : Calls P f args x.now fun e w' => e = .returned v ∧ x.now.grownBy w' none) : Calls P f args x.now fun e w' => e = .returned v ∧ ∃ x' : KW w b c, w' = x'.now :=
  k.mono fun _ w' ⟨he, hg⟩ => ⟨he, ⟨w', x.good.kept hg, x.gl.kept hg, grown_more x.grown hg (by simp)⟩, rfl⟩
theorem full_sp (i : Nat) (w : World) : Calls Tryd.prog 19 #[spn (Cro.sp i)] w fun e w' => e = .returned (.int .u64 ((Cro.sp i).full : Nat)) ∧ w.grownBy w' none := by
  have := sp_bd i
  exact full_any (Cro.sp i) (by omega) (by omega) w
theorem right_of {c : Cro.C} (h : ∀ j, j < 5 → Cro.okS (Cro.sp j) (c.set j)) : Cro.okS (Cro.sp 0) c.mi ∧ Cro.okS (Cro.sp 1) c.ho ∧ Cro.okS (Cro.sp 2) c.da ∧ Cro.okS (Cro.sp 3) c.mo ∧ Cro.okS (Cro.sp 4) c.we :=
  ⟨h 0 (by omega), h 1 (by omega), h 2 (by omega), h 3 (by omega), h 4 (by omega)⟩
theorem right_at {c : Cro.C} (h : c.right) (k : Nat) (hk : k < 5) : Cro.okS (Cro.sp k) (c.set k) := by
  match k, hk with
  | 0, _ => exact h.1.1
  | 1, _ => exact h.1.2.1
  | 2, _ => exact h.1.2.2.1
  | 3, _ => exact h.1.2.2.2.1
  | 4, _ => exact h.1.2.2.2.2

set_option maxRecDepth 100000 in
set_option maxHeartbeats 1600000 in
theorem Check_any (c : Cro.C) (hc : c.ok) (w : World) (hG : Gl w) :
    Calls Tryd.prog 7 #[crv c] w fun e w' => e = .returned (.bool (decide c.right)) ∧ w.grownBy w' none := by
  have SO := setsOf_any c
  have FS := full_sp
  have HB : Hid (∀ k, k < 5 → ¬ Cro.okS (Cro.sp k) (c.set k) → decide c.right = false) := fun k hk h => decide_eq_false (fun h' => h (right_at h' k hk))
  have HK : Hid (∀ a b : Bool, (∀ j, j < 5 → Cro.okS (Cro.sp j) (c.set j)) → (a = true ↔ (c.ad = true → c.da = (Cro.sp 2).full)) → (b = true ↔ (c.aw = true → c.we = (Cro.sp 4).full)) → (a && b) = decide c.right) := fun a b h h1 h2 => by
    rw [Bool.eq_iff_iff, Bool.and_eq_true, decide_eq_true_iff, h1, h2]
    exact ⟨fun h' => ⟨right_of h, h'⟩, fun h' => h'.2⟩
  generalize decide c.right = V at HB HK ⊢
  go_enter Tryd.func7, Tryd.ntmps7
  go_wp2_with (go_at_call 18; go_must (refine (SO _).mono ?_); rintro e w1 ⟨rfl, hg⟩)
  have C1 : CrAt w1 w.heap.size c := (CrAt.new w c _).kept hg
  have G1 : w.grownBy w1 none := grown_more (World.grownBy_alloc w _ none) hg (by simp)
  clear hg SO
  go_loopw [7] (fun i wr => ∃ k : Nat, k ≤ 5 ∧ i = .int .i64 k ∧ CrAt wr w.heap.size c ∧ w.grownBy wr none ∧ Hid (∀ j, j < k → Cro.okS (Cro.sp j) (c.set j))) (fun i _ => (5 - (intOf i).toNat))
  case atStart => exact ⟨0, by omega, rfl, C1, G1, fun j hj => by omega⟩
  case round =>
    clear C1 G1
    obtain ⟨k, hk, rfl, hC, hg, HF⟩ := hrel
    by_cases hlt : k < 5
    · obtain ⟨s0, s1, s2⟩ := (hG.kept hg).s k hlt
      have hix : ∀ w', (Instr.index 56 (fiv c) (.int .i64 (k : Int))).run Tryd.prog w' = .ok (.int .u64 (c.set k : Nat)) w' := fun w' => index_five c k hlt w'
      have FSk := FS k
      have hAN := andNot_test (c.set k) (Cro.sp k).full (hc.set k) (Cro.full_lt k)
      have HBk : Hid (¬ Cro.okS (Cro.sp k) (c.set k) → V = false) := HB.out k hlt
      have HFk : Hid (Cro.okS (Cro.sp k) (c.set k) → ∀ j, j < k + 1 → Cro.okS (Cro.sp j) (c.set j)) := fun h j hj => by
        rcases Nat.lt_succ_iff_lt_or_eq.mp hj with h' | rfl
        · exact HF.out j h'
        · exact h
      by_cases h0 : c.set k = 0
      · have z : (((c.set k : Nat) : Int) == 0) = true := by simp [h0]
        have hV : V = false := HBk.out (fun h => h.1 h0)
        subst hV
        clear HBk HFk hAN h0 FSk HB HK HF
        generalize c.set k = X at hix z
        go_wp2_with (go_at_call 19; fail)
        go_ret
        exact ⟨rfl, hg⟩
      · have z : (((c.set k : Nat) : Int) == 0) = false := by simp [h0]
        by_cases hf : c.set k ||| (Cro.sp k).full = (Cro.sp k).full
        · have HF' : Hid (∀ j, j < k + 1 → Cro.okS (Cro.sp j) (c.set j)) := HFk.out ⟨h0, hf⟩
          rw [decide_eq_true hf, Bool.not_true] at hAN
          clear HBk HFk h0 hf HB HF
          generalize c.set k = X at hix z hAN
          generalize (Cro.sp k).full = FU at FSk hAN
          generalize Cro.sp k = f at s0 s1 s2 FSk
          go_wp2_with (go_at_call 19; go_must (refine (FSk _).mono ?_); rintro e w2 ⟨rfl, hg2⟩)
          go_roundw
          case rel => exact ⟨k + 1, by omega, by go_num, hC.kept hg2, grown_more hg hg2 (by simp), HF'⟩
          case measure => simp [intOf]; omega
        · have hV : V = false := HBk.out (fun h => hf h.2)
          subst hV
          rw [decide_eq_false hf, Bool.not_false] at hAN
          clear HBk HFk h0 hf HB HK HF
          generalize c.set k = X at hix z hAN
          generalize (Cro.sp k).full = FU at FSk hAN
          generalize Cro.sp k = f at s0 s1 s2 FSk
          go_wp2_with (go_at_call 19; go_must (refine (FSk _).mono ?_); rintro e w2 ⟨rfl, hg2⟩)
          go_ret
          exact ⟨rfl, grown_more hg hg2 (by simp)⟩
    · obtain rfl : k = 5 := by omega
      have hne : Nonempty (KW w w.heap.size c) := ⟨wr, hC, hG.kept hg, hg⟩
      have x2 : ∀ x : KW w w.heap.size c, x.now.cell? ⟨w.heap.size, 2, none⟩ = some (.int .u64 c.da) := fun x => x.good.c2
      have x4 : ∀ x : KW w w.heap.size c, x.now.cell? ⟨w.heap.size, 4, none⟩ = some (.int .u64 c.we) := fun x => x.good.c4
      have x5 : ∀ x : KW w w.heap.size c, x.now.cell? ⟨w.heap.size, 5, none⟩ = some (.bool c.ad) := fun x => x.good.c5
      have x6 : ∀ x : KW w w.heap.size c, x.now.cell? ⟨w.heap.size, 6, none⟩ = some (.bool c.aw) := fun x => x.good.c6
      have a0 : ∀ x : KW w w.heap.size c, x.now.cell? ⟨0, 6, none⟩ = some (.int .i64 (Cro.sp 2).lo) := fun x => (x.gl.s 2 (by omega)).1
      have a1 : ∀ x : KW w w.heap.size c, x.now.cell? ⟨0, 7, none⟩ = some (.int .i64 (Cro.sp 2).hi) := fun x => (x.gl.s 2 (by omega)).2.1
      have a2 : ∀ x : KW w w.heap.size c, x.now.cell? ⟨0, 8, none⟩ = some (.int .i64 (Cro.sp 2).last) := fun x => (x.gl.s 2 (by omega)).2.2
      have b0 : ∀ x : KW w w.heap.size c, x.now.cell? ⟨0, 12, none⟩ = some (.int .i64 (Cro.sp 4).lo) := fun x => (x.gl.s 4 (by omega)).1
      have b1 : ∀ x : KW w w.heap.size c, x.now.cell? ⟨0, 13, none⟩ = some (.int .i64 (Cro.sp 4).hi) := fun x => (x.gl.s 4 (by omega)).2.1
      have b2 : ∀ x : KW w w.heap.size c, x.now.cell? ⟨0, 14, none⟩ = some (.int .i64 (Cro.sp 4).last) := fun x => (x.gl.s 4 (by omega)).2.2
      have F2 := FS 2
      have F4 := FS 4
      have HV : Hid (∀ a b : Bool, (a = true ↔ (c.ad = true → c.da = (Cro.sp 2).full)) → (b = true ↔ (c.aw = true → c.we = (Cro.sp 4).full)) → (a && b) = V) := fun a b h1 h2 => HK.out a b HF.out h1 h2
      have GK : Hid (w.grownBy wr none ∧ CrAt wr w.heap.size c ∧ Gl wr) := ⟨hg, hC, hG.kept hg⟩
      clear HB HK HF FS hC hg hG hc
      have e2 : ∃ f2 : Cro.Sp, f2 = Cro.sp 2 := ⟨_, rfl⟩
      have e4 : ∃ f4 : Cro.Sp, f4 = Cro.sp 4 := ⟨_, rfl⟩
      obtain ⟨f2, e2⟩ := e2
      obtain ⟨f4, e4⟩ := e4
      rw [← e2] at a0 a1 a2 F2 HV
      rw [← e4] at b0 b1 b2 F4 HV
      clear e2 e4
      generalize f2.full = U2 at F2 HV
      generalize f4.full = U4 at F4 HV
      cases hd : c.ad with
      | false =>
        simp only [hd] at x5
        cases he : c.aw with
        | false =>
          simp only [he] at x6
          go_wp2
          refine wp_region_quiet_at (C := fun w' => ∃ x : KW w w.heap.size c, w' = x.now) (by kernel_rfl) (by kernel_rfl) ⟨⟨_, GK.out.2.1.kept (grown_drewN (grown_refl _ _) 1), GK.out.2.2.kept (grown_drewN (grown_refl _ _) 1), grown_drewN GK.out.1 1⟩, rfl⟩ ?_
          repeat (go_big_quiet_step (fail))
          refine wpQuiet_nil ?_
          rintro _ ⟨x, rfl⟩
          go_wp2
          go_ret
          exact ⟨ret_bool (HV.out true true (by simp [hd]) (by simp [he])), x.grown⟩
        | true =>
          simp only [he] at x6
          by_cases hw : c.we = U4
          · have z4 : (((c.we : Nat) : Int) == ((U4 : Nat) : Int)) = true := by simp [hw]
            go_wp2
            refine wp_region_quiet_at (C := fun w' => ∃ x : KW w w.heap.size c, w' = x.now) (by kernel_rfl) (by kernel_rfl) ⟨⟨_, GK.out.2.1.kept (grown_drewN (grown_refl _ _) 1), GK.out.2.2.kept (grown_drewN (grown_refl _ _) 1), grown_drewN GK.out.1 1⟩, rfl⟩ ?_
            repeat (go_big_quiet_step ((go_at_call 19; refine KW.call (F4 _))))
            refine wpQuiet_nil ?_
            rintro _ ⟨x, rfl⟩
            go_wp2
            go_ret
            exact ⟨ret_bool (HV.out true true (by simp [hd]) (by simp [he, hw])), x.grown⟩
          · have z4 : (((c.we : Nat) : Int) == ((U4 : Nat) : Int)) = false := by simp; omega
            go_wp2
            refine wp_region_quiet_at (C := fun w' => ∃ x : KW w w.heap.size c, w' = x.now) (by kernel_rfl) (by kernel_rfl) ⟨⟨_, GK.out.2.1.kept (grown_drewN (grown_refl _ _) 1), GK.out.2.2.kept (grown_drewN (grown_refl _ _) 1), grown_drewN GK.out.1 1⟩, rfl⟩ ?_
            repeat (go_big_quiet_step ((go_at_call 19; refine KW.call (F4 _))))
            refine wpQuiet_nil ?_
            rintro _ ⟨x, rfl⟩
            go_wp2
            go_ret
            exact ⟨ret_bool (HV.out true false (by simp [hd]) (by simp [he, hw])), x.grown⟩
      | true =>
        simp only [hd] at x5
        by_cases hw2 : c.da = U2
        · have z2 : (((c.da : Nat) : Int) == ((U2 : Nat) : Int)) = true := by simp [hw2]
          cases he : c.aw with
          | false =>
            simp only [he] at x6
            go_wp2
            refine wp_region_quiet_at (C := fun w' => ∃ x : KW w w.heap.size c, w' = x.now) (by kernel_rfl) (by kernel_rfl) ⟨⟨_, GK.out.2.1.kept (grown_drewN (grown_refl _ _) 1), GK.out.2.2.kept (grown_drewN (grown_refl _ _) 1), grown_drewN GK.out.1 1⟩, rfl⟩ ?_
            repeat (go_big_quiet_step ((go_at_call 19; refine KW.call (F2 _))))
            refine wpQuiet_nil ?_
            rintro _ ⟨x, rfl⟩
            go_wp2
            go_ret
            exact ⟨ret_bool (HV.out true true (by simp [hd, hw2]) (by simp [he])), x.grown⟩
          | true =>
            simp only [he] at x6
            by_cases hw : c.we = U4
            · have z4 : (((c.we : Nat) : Int) == ((U4 : Nat) : Int)) = true := by simp [hw]
              go_wp2
              refine wp_region_quiet_at (C := fun w' => ∃ x : KW w w.heap.size c, w' = x.now) (by kernel_rfl) (by kernel_rfl) ⟨⟨_, GK.out.2.1.kept (grown_drewN (grown_refl _ _) 1), GK.out.2.2.kept (grown_drewN (grown_refl _ _) 1), grown_drewN GK.out.1 1⟩, rfl⟩ ?_
              repeat (go_big_quiet_step (first | (go_at_call 19; with_reducible refine KW.call (F2 _)) | (go_at_call 19; refine KW.call (F4 _))))
              refine wpQuiet_nil ?_
              rintro _ ⟨x, rfl⟩
              go_wp2
              go_ret
              exact ⟨ret_bool (HV.out true true (by simp [hd, hw2]) (by simp [he, hw])), x.grown⟩
            · have z4 : (((c.we : Nat) : Int) == ((U4 : Nat) : Int)) = false := by simp; omega
              go_wp2
              refine wp_region_quiet_at (C := fun w' => ∃ x : KW w w.heap.size c, w' = x.now) (by kernel_rfl) (by kernel_rfl) ⟨⟨_, GK.out.2.1.kept (grown_drewN (grown_refl _ _) 1), GK.out.2.2.kept (grown_drewN (grown_refl _ _) 1), grown_drewN GK.out.1 1⟩, rfl⟩ ?_
              repeat (go_big_quiet_step (first | (go_at_call 19; with_reducible refine KW.call (F2 _)) | (go_at_call 19; refine KW.call (F4 _))))
              refine wpQuiet_nil ?_
              rintro _ ⟨x, rfl⟩
              go_wp2
              go_ret
              exact ⟨ret_bool (HV.out true false (by simp [hd, hw2]) (by simp [he, hw])), x.grown⟩
        · have z2 : (((c.da : Nat) : Int) == ((U2 : Nat) : Int)) = false := by simp; omega
          go_wp2
          refine wp_region_quiet_at (C := fun w' => ∃ x : KW w w.heap.size c, w' = x.now) (by kernel_rfl) (by kernel_rfl) ⟨⟨_, GK.out.2.1.kept (grown_drewN (grown_refl _ _) 1), GK.out.2.2.kept (grown_drewN (grown_refl _ _) 1), grown_drewN GK.out.1 1⟩, rfl⟩ ?_
          repeat (go_big_quiet_step ((go_at_call 19; refine KW.call (F2 _))))
          refine wpQuiet_nil ?_
          rintro _ ⟨x, rfl⟩
          go_wp2
          go_ret
          exact ⟨ret_bool (HV.out false (decide (c.aw = true → c.we = U4)) (by simp [hd, hw2]) decide_eq_true_iff), x.grown⟩
end Go.Proofs.YteiiapnpdfgoaaaDoor
