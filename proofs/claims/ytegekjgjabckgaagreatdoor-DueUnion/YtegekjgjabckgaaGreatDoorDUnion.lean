/- The statement on the minutes of two expressions put together: its walk. -/
import Derived.Test.YtegekjgjabckgaaGreatDoorDAwake
import Derived.Test.YtegekjgjabckgaaGreatDoorDArgs
import Derived.Test.YtegekjgjabckgaaGreatDoorDNxV
import Derived.Laws.Bits64b
namespace Go.Proofs.YtegekjgjabckgaaGreatDoor
open Go.RowKit
set_option linter.unusedVariables false

/-- An expression with other minutes. -/
abbrev withMi (c : Cro.C) (m : Nat) : Cro.C := ⟨m, c.ho, c.da, c.mo, c.we, c.ad, c.aw⟩
theorem full0_is : (Cro.sp 0).full = 1152921504606846975 := by decide +kernel
theorem right_mi {c : Cro.C} (h : c.right) {m : Nat} (h0 : m ≠ 0) (hm : m ||| (Cro.sp 0).full = (Cro.sp 0).full) : (withMi c m).right := ⟨⟨⟨h0, hm⟩, h.1.2⟩, h.2⟩
theorem and_full (x : Nat) : (x &&& 1152921504606846975) ||| (Cro.sp 0).full = (Cro.sp 0).full := by
  rw [full0_is]
  apply Nat.eq_of_testBit_eq
  intro i
  rw [Nat.testBit_or, Nat.testBit_and]
  cases Nat.testBit 1152921504606846975 i <;> simp
theorem fit_or {c : Cro.C} {m : Nat} (hc : c.right) (hd : (withMi c m).right) (hb : (withMi c (c.mi ||| m)).right) (L : Int) : Due.Fit (withMi c (c.mi ||| m)) L ↔ Due.Fit c L ∨ Due.Fit (withMi c m) L := by
  by_cases hL : 0 ≤ L ∧ L ≤ 226157759
  · obtain ⟨y, mo, d, hA⟩ := Civ.At.is (n := L / 1440) (by omega) (by omega)
    rw [Due.fit_iff hb hA, Due.fit_iff hc hA, Due.fit_iff hd hA]
    show ((c.mi ||| m).testBit _ && c.ho.testBit _ && c.day _ _ _) = true ↔ (c.mi.testBit _ && c.ho.testBit _ && c.day _ _ _) = true ∨ (m.testBit _ && c.ho.testBit _ && c.day _ _ _) = true
    rw [Nat.testBit_or]
    generalize c.mi.testBit _ = x1
    generalize m.testBit _ = x2
    generalize c.ho.testBit _ = x3
    generalize c.day _ _ _ = x4
    revert x1 x2 x3 x4
    decide
  · constructor
    · intro h
      exact absurd (Due.fit_range h) hL
    · rintro (h | h)
      · exact absurd (Due.fit_range h) hL
      · exact absurd (Due.fit_range h) hL

theorem nxV_time {P : Nat → Bool} {c : Cro.C} {z : Zon.Z} {a : Int} (hr : c.right) (hz : z.ok) (ha : a < -1 ∨ 226157759 < a) : Due.nxV P c z a = (0, 30) := by
  unfold Due.nxV
  rw [if_neg (fun x => x hr), if_neg (fun x => x hz), if_pos ha]
theorem nxV_zone {P : Nat → Bool} {c : Cro.C} {z : Zon.Z} {a : Int} (hr : c.right) (hz : ¬ z.ok) : Due.nxV P c z a = (0, 40) := by
  unfold Due.nxV
  rw [if_neg (fun x => x hr), if_pos hz]

/-- Where the statement's walk may come. -/
inductive UC (t e u f v g : Int) : Prop
  | a1 (h1 : e = 1)
  | a2 (h1 : e ≠ 1) (h2 : e ≠ 0) (h3 : e ≠ 60) (h4 : g = e)
  | n (h1 : e = 60) (h2 : g = f) (h3 : v = u)
  | l (h1 : e = 0) (h2 : f = 0) (h3 : u < t) (h4 : g = 0) (h5 : v = u)
  | r1 (h1 : e = 0) (h2 : f = 0) (h3 : ¬ u < t) (h4 : g = 0) (h5 : v = t)
  | r2 (h1 : e = 0) (h2 : f ≠ 0) (h4 : g = 0) (h5 : v = t)
theorem union_cases (c : Cro.C) (m : Nat) (z : Zon.Z) (a : Int) (P Q R : Nat → Bool) (hP : Due.IsP c z P) (hQ : Due.IsP (withMi c (m &&& 1152921504606846975)) z Q) (hR : Due.IsP (withMi c (c.mi ||| (m &&& 1152921504606846975))) z R) (hm : m &&& 1152921504606846975 ≠ 0) :
    UC (Due.nxV P c z a).1 (Due.nxV P c z a).2 (Due.nxV Q (withMi c (m &&& 1152921504606846975)) z a).1 (Due.nxV Q (withMi c (m &&& 1152921504606846975)) z a).2 (Due.nxV R (withMi c (c.mi ||| (m &&& 1152921504606846975))) z a).1 (Due.nxV R (withMi c (c.mi ||| (m &&& 1152921504606846975))) z a).2 := by
  by_cases hr : c.right
  · have hd := right_mi hr hm (and_full m)
    have hb : (withMi c (c.mi ||| (m &&& 1152921504606846975))).right := right_mi hr (fun h => hm (Nat.or_eq_zero_iff.mp h).2) (by rw [Nat.or_assoc, and_full]; exact hr.1.1.2)
    by_cases hz : z.ok
    · by_cases ha : a < -1 ∨ 226157759 < a
      · rw [nxV_time hr hz ha, nxV_time hb hz ha]
        exact .a2 (by show (30 : Int) ≠ 1; omega) (by show (30 : Int) ≠ 0; omega) (by show (30 : Int) ≠ 60; omega) rfl
      · have hPR : R = fun t => P t || Q t := by
          funext t
          rw [Bool.eq_iff_iff, Bool.or_eq_true, hR t, hP t, hQ t]
          exact fit_or hr hd hb _
        have HO := Due.nx_or (P := P) (Q := Q) (M := 226157759) (s := (a + 1).toNat)
        rw [← hPR] at HO
        cases hx : Due.nx P 226157759 (a + 1).toNat with
        | none =>
          rw [hx] at HO
          simp only at HO
          rw [Due.nxV_no hr hz (by omega) (by omega) hx]
          cases hy : Due.nx Q 226157759 (a + 1).toNat with
          | none =>
            rw [hy] at HO
            rw [Due.nxV_no hd hz (by omega) (by omega) hy, Due.nxV_no hb hz (by omega) (by omega) HO]
            exact .n rfl rfl rfl
          | some u =>
            rw [hy] at HO
            rw [Due.nxV_at hd hz (by omega) (by omega) hy, Due.nxV_at hb hz (by omega) (by omega) HO]
            exact .n rfl rfl rfl
        | some t =>
          rw [hx] at HO
          rw [Due.nxV_at hr hz (by omega) (by omega) hx]
          cases hy : Due.nx Q 226157759 (a + 1).toNat with
          | none =>
            rw [hy] at HO
            rw [Due.nxV_no hd hz (by omega) (by omega) hy, Due.nxV_at hb hz (by omega) (by omega) HO]
            exact .r2 rfl (by decide) rfl rfl
          | some u =>
            rw [hy] at HO
            rw [Due.nxV_at hd hz (by omega) (by omega) hy, Due.nxV_at hb hz (by omega) (by omega) HO]
            by_cases hut : (u : Int) < t
            · exact .l rfl rfl hut rfl (by show ((min t u : Nat) : Int) = u; omega)
            · exact .r1 rfl rfl hut rfl (by show ((min t u : Nat) : Int) = t; omega)
    · rw [nxV_zone hr hz, nxV_zone hb hz]
      exact .a2 (by show (40 : Int) ≠ 1; omega) (by show (40 : Int) ≠ 0; omega) (by show (40 : Int) ≠ 60; omega) rfl
  · refine .a1 ?_
    unfold Due.nxV
    rw [if_pos hr]


set_option maxRecDepth 100000 in
set_option maxHeartbeats 3200000 in
theorem union_a1 (c : Cro.C) (z : Zon.Z) (m dm bm : Nat) (hc : c.mi < 18446744073709551616) (hmm : m < 18446744073709551616) (hA : bits BinOp.and IntKind.u64 (m : Int) 1152921504606846975 = (dm : Int)) (hO : bits BinOp.or IntKind.u64 (c.mi : Int) (dm : Int) = (bm : Int)) (h0 : dm ≠ 0) (a t u f v g : Int) 
    (N1 : ∀ w, Gd w → Calls Tryz.prog 10 #[crv c, zon z, .int .i64 a] w fun r w' => r = .returned (.tuple #[.int .i64 t, .int .i64 1]) ∧ w.grownBy w' none)
    (N2 : ∀ w, Gd w → Calls Tryz.prog 10 #[.agg #[.int .u64 (dm : Int), .int .u64 c.ho, .int .u64 c.da, .int .u64 c.mo, .int .u64 c.we, .bool c.ad, .bool c.aw], zon z, .int .i64 a] w fun r w' => r = .returned (.tuple #[.int .i64 u, .int .i64 f]) ∧ w.grownBy w' none)
    (N3 : ∀ w, Gd w → Calls Tryz.prog 10 #[.agg #[.int .u64 (bm : Int), .int .u64 c.ho, .int .u64 c.da, .int .u64 c.mo, .int .u64 c.we, .bool c.ad, .bool c.aw], zon z, .int .i64 a] w fun r w' => r = .returned (.tuple #[.int .i64 v, .int .i64 g]) ∧ w.grownBy w' none) (w : World) (hG : Gd w) :
    Calls Tryz.prog 8 #[crv c, .int .u64 m, zon z, .int .i64 a] w fun r w' => r = .returned (.bool true) ∧ w.grownBy w' none := by
  have hnot : ∀ (x : Bool) (w : World), (Op.unary .not (.bool x)).run Tryz.prog w = .ok (.bool (!x)) w := fun _ _ => rfl
  have AW := awake_any
  have K2 := fun o1 o2 => grown_alloc (World.grownBy_alloc w o1 none) o2
  have q0 : ((dm : Int) == 0) = false := by simpa using h0
  go_enter Tryz.func8, Tryz.ntmps8
  go_wp2_with (first
    | (go_at_call 9; go_must (refine (AW _ (hG.kept (K2 _ _))).mono ?_); rintro e w1 ⟨rfl, H1⟩; have G1 := fun o1 o2 => ((hG.kept (K2 _ _)).kept H1).kept (grown_alloc (World.grownBy_alloc w1 o1 none) o2); have H1' := fun o1 => grown_alloc H1 o1; have H1b := fun o1 o2 => grown_alloc (H1' o1) o2; have pc0 := cell_kept2 H1 0 _ rfl; have pc1 := cell_kept2 H1 1 _ rfl; have pc2 := cell_kept2 H1 2 _ rfl; have pc3 := cell_kept2 H1 3 _ rfl; have pc4 := cell_kept2 H1 4 _ rfl; have pc5 := cell_kept2 H1 5 _ rfl; have pc6 := cell_kept2 H1 6 _ rfl; have pp0 := fun o1 => cell_kept2 (H1' o1) 0 _ rfl; have pp1 := fun o1 => cell_kept2 (H1' o1) 1 _ rfl; have pp2 := fun o1 => cell_kept2 (H1' o1) 2 _ rfl; have pp3 := fun o1 => cell_kept2 (H1' o1) 3 _ rfl; have pp4 := fun o1 => cell_kept2 (H1' o1) 4 _ rfl; have pp5 := fun o1 => cell_kept2 (H1' o1) 5 _ rfl; have pp6 := fun o1 => cell_kept2 (H1' o1) 6 _ rfl; have pr0 := fun o1 o2 => cell_kept2 (H1b o1 o2) 0 _ rfl; have pr1 := fun o1 o2 => cell_kept2 (H1b o1 o2) 1 _ rfl; have pr2 := fun o1 o2 => cell_kept2 (H1b o1 o2) 2 _ rfl; have pr3 := fun o1 o2 => cell_kept2 (H1b o1 o2) 3 _ rfl; have pr4 := fun o1 o2 => cell_kept2 (H1b o1 o2) 4 _ rfl; have pr5 := fun o1 o2 => cell_kept2 (H1b o1 o2) 5 _ rfl; have pr6 := fun o1 o2 => cell_kept2 (H1b o1 o2) 6 _ rfl; have pz0 := fun o1 o2 => cell_kept (H1b o1 o2) 0 _ rfl; have pz1 := fun o1 o2 => cell_kept (H1b o1 o2) 1 _ rfl; have pz2 := fun o1 o2 => cell_kept (H1b o1 o2) 2 _ rfl; have pz3 := fun o1 o2 => cell_kept (H1b o1 o2) 3 _ rfl; have pz4 := fun o1 o2 => cell_kept (H1b o1 o2) 4 _ rfl; have pz5 := fun o1 o2 => cell_kept (H1b o1 o2) 5 _ rfl; have pz6 := fun o1 o2 => cell_kept (H1b o1 o2) 6 _ rfl; have pz7 := fun o1 o2 => cell_kept (H1b o1 o2) 7 _ rfl; have pz8 := fun o1 o2 => cell_kept (H1b o1 o2) 8 _ rfl; have pz9 := fun o1 o2 => cell_kept (H1b o1 o2) 9 _ rfl; simp only [World.size_alloc] at pz0 pz1 pz2 pz3 pz4 pz5 pz6 pz7 pz8 pz9)
    | (go_at_call 10; with_reducible refine (N1 _ (G1 _ _)).mono ?_; rintro e w2 ⟨rfl, hg2⟩; have H2 := grown_more (H1b _ _) hg2 (by simp); have G2 := (G1 _ _).kept hg2; have d0 := cell_kept2 hg2 0 _ rfl; have d1 := cell_kept2 hg2 1 _ rfl; have d2 := cell_kept2 hg2 2 _ rfl; have d3 := cell_kept2 hg2 3 _ rfl; have d4 := cell_kept2 hg2 4 _ rfl; have d5 := cell_kept2 hg2 5 _ rfl; have d6 := cell_kept2 hg2 6 _ rfl; have b0 := cell_kept hg2 0 _ rfl; have b1 := cell_kept hg2 1 _ rfl; have b2 := cell_kept hg2 2 _ rfl; have b3 := cell_kept hg2 3 _ rfl; have b4 := cell_kept hg2 4 _ rfl; have b5 := cell_kept hg2 5 _ rfl; have b6 := cell_kept hg2 6 _ rfl; simp only [World.size_alloc] at b0 b1 b2 b3 b4 b5 b6; have qz0 := cell_kept H2 0 _ rfl; have qz1 := cell_kept H2 1 _ rfl; have qz2 := cell_kept H2 2 _ rfl; have qz3 := cell_kept H2 3 _ rfl; have qz4 := cell_kept H2 4 _ rfl; have qz5 := cell_kept H2 5 _ rfl; have qz6 := cell_kept H2 6 _ rfl; have qz7 := cell_kept H2 7 _ rfl; have qz8 := cell_kept H2 8 _ rfl; have qz9 := cell_kept H2 9 _ rfl; simp only [World.size_alloc] at qz0 qz1 qz2 qz3 qz4 qz5 qz6 qz7 qz8 qz9)
    | (go_at_call 10; with_reducible refine (N2 _ G2).mono ?_; rintro e w3 ⟨rfl, hg3⟩; have H3 := grown_more H2 hg3 (by simp); have G3 := G2.kept hg3; have B3 := grown_more hg2 hg3 (by simp); have e0 := cell_kept B3 0 _ rfl; have e1 := cell_kept B3 1 _ rfl; have e2 := cell_kept B3 2 _ rfl; have e3 := cell_kept B3 3 _ rfl; have e4 := cell_kept B3 4 _ rfl; have e5 := cell_kept B3 5 _ rfl; have e6 := cell_kept B3 6 _ rfl; simp only [World.size_alloc] at e0 e1 e2 e3 e4 e5 e6; have rz0 := cell_kept H3 0 _ rfl; have rz1 := cell_kept H3 1 _ rfl; have rz2 := cell_kept H3 2 _ rfl; have rz3 := cell_kept H3 3 _ rfl; have rz4 := cell_kept H3 4 _ rfl; have rz5 := cell_kept H3 5 _ rfl; have rz6 := cell_kept H3 6 _ rfl; have rz7 := cell_kept H3 7 _ rfl; have rz8 := cell_kept H3 8 _ rfl; have rz9 := cell_kept H3 9 _ rfl; simp only [World.size_alloc] at rz0 rz1 rz2 rz3 rz4 rz5 rz6 rz7 rz8 rz9)
    | (go_at_call 10; with_reducible refine (N3 _ G3).mono ?_; rintro e w4 ⟨rfl, hg4⟩))
  go_ret
  exact ⟨rfl, grown_more (K2 _ _) (grown_more H3 hg4 (by simp)) (by simp)⟩

set_option maxRecDepth 100000 in
set_option maxHeartbeats 3200000 in
theorem union_a2 (c : Cro.C) (z : Zon.Z) (m dm bm : Nat) (hc : c.mi < 18446744073709551616) (hmm : m < 18446744073709551616) (hA : bits BinOp.and IntKind.u64 (m : Int) 1152921504606846975 = (dm : Int)) (hO : bits BinOp.or IntKind.u64 (c.mi : Int) (dm : Int) = (bm : Int)) (h0 : dm ≠ 0) (a t e u f v : Int) (h1 : e ≠ 1) (h2 : e ≠ 0) (h3 : e ≠ 60)
    (N1 : ∀ w, Gd w → Calls Tryz.prog 10 #[crv c, zon z, .int .i64 a] w fun r w' => r = .returned (.tuple #[.int .i64 t, .int .i64 e]) ∧ w.grownBy w' none)
    (N2 : ∀ w, Gd w → Calls Tryz.prog 10 #[.agg #[.int .u64 (dm : Int), .int .u64 c.ho, .int .u64 c.da, .int .u64 c.mo, .int .u64 c.we, .bool c.ad, .bool c.aw], zon z, .int .i64 a] w fun r w' => r = .returned (.tuple #[.int .i64 u, .int .i64 f]) ∧ w.grownBy w' none)
    (N3 : ∀ w, Gd w → Calls Tryz.prog 10 #[.agg #[.int .u64 (bm : Int), .int .u64 c.ho, .int .u64 c.da, .int .u64 c.mo, .int .u64 c.we, .bool c.ad, .bool c.aw], zon z, .int .i64 a] w fun r w' => r = .returned (.tuple #[.int .i64 v, .int .i64 e]) ∧ w.grownBy w' none) (w : World) (hG : Gd w) :
    Calls Tryz.prog 8 #[crv c, .int .u64 m, zon z, .int .i64 a] w fun r w' => r = .returned (.bool true) ∧ w.grownBy w' none := by
  have hnot : ∀ (x : Bool) (w : World), (Op.unary .not (.bool x)).run Tryz.prog w = .ok (.bool (!x)) w := fun _ _ => rfl
  have AW := awake_any
  have K2 := fun o1 o2 => grown_alloc (World.grownBy_alloc w o1 none) o2
  have q0 : ((dm : Int) == 0) = false := by simpa using h0
  have q1 : (e != 0) = true := by simpa using h2
  have q2 : (e != 60) = true := by simpa using h3
  have q3 : (e == 1) = false := by simpa using h1
  go_enter Tryz.func8, Tryz.ntmps8
  go_wp2_with (first
    | (go_at_call 9; go_must (refine (AW _ (hG.kept (K2 _ _))).mono ?_); rintro e w1 ⟨rfl, H1⟩; have G1 := fun o1 o2 => ((hG.kept (K2 _ _)).kept H1).kept (grown_alloc (World.grownBy_alloc w1 o1 none) o2); have H1' := fun o1 => grown_alloc H1 o1; have H1b := fun o1 o2 => grown_alloc (H1' o1) o2; have pc0 := cell_kept2 H1 0 _ rfl; have pc1 := cell_kept2 H1 1 _ rfl; have pc2 := cell_kept2 H1 2 _ rfl; have pc3 := cell_kept2 H1 3 _ rfl; have pc4 := cell_kept2 H1 4 _ rfl; have pc5 := cell_kept2 H1 5 _ rfl; have pc6 := cell_kept2 H1 6 _ rfl; have pp0 := fun o1 => cell_kept2 (H1' o1) 0 _ rfl; have pp1 := fun o1 => cell_kept2 (H1' o1) 1 _ rfl; have pp2 := fun o1 => cell_kept2 (H1' o1) 2 _ rfl; have pp3 := fun o1 => cell_kept2 (H1' o1) 3 _ rfl; have pp4 := fun o1 => cell_kept2 (H1' o1) 4 _ rfl; have pp5 := fun o1 => cell_kept2 (H1' o1) 5 _ rfl; have pp6 := fun o1 => cell_kept2 (H1' o1) 6 _ rfl; have pr0 := fun o1 o2 => cell_kept2 (H1b o1 o2) 0 _ rfl; have pr1 := fun o1 o2 => cell_kept2 (H1b o1 o2) 1 _ rfl; have pr2 := fun o1 o2 => cell_kept2 (H1b o1 o2) 2 _ rfl; have pr3 := fun o1 o2 => cell_kept2 (H1b o1 o2) 3 _ rfl; have pr4 := fun o1 o2 => cell_kept2 (H1b o1 o2) 4 _ rfl; have pr5 := fun o1 o2 => cell_kept2 (H1b o1 o2) 5 _ rfl; have pr6 := fun o1 o2 => cell_kept2 (H1b o1 o2) 6 _ rfl; have pz0 := fun o1 o2 => cell_kept (H1b o1 o2) 0 _ rfl; have pz1 := fun o1 o2 => cell_kept (H1b o1 o2) 1 _ rfl; have pz2 := fun o1 o2 => cell_kept (H1b o1 o2) 2 _ rfl; have pz3 := fun o1 o2 => cell_kept (H1b o1 o2) 3 _ rfl; have pz4 := fun o1 o2 => cell_kept (H1b o1 o2) 4 _ rfl; have pz5 := fun o1 o2 => cell_kept (H1b o1 o2) 5 _ rfl; have pz6 := fun o1 o2 => cell_kept (H1b o1 o2) 6 _ rfl; have pz7 := fun o1 o2 => cell_kept (H1b o1 o2) 7 _ rfl; have pz8 := fun o1 o2 => cell_kept (H1b o1 o2) 8 _ rfl; have pz9 := fun o1 o2 => cell_kept (H1b o1 o2) 9 _ rfl; simp only [World.size_alloc] at pz0 pz1 pz2 pz3 pz4 pz5 pz6 pz7 pz8 pz9)
    | (go_at_call 10; with_reducible refine (N1 _ (G1 _ _)).mono ?_; rintro e w2 ⟨rfl, hg2⟩; have H2 := grown_more (H1b _ _) hg2 (by simp); have G2 := (G1 _ _).kept hg2; have d0 := cell_kept2 hg2 0 _ rfl; have d1 := cell_kept2 hg2 1 _ rfl; have d2 := cell_kept2 hg2 2 _ rfl; have d3 := cell_kept2 hg2 3 _ rfl; have d4 := cell_kept2 hg2 4 _ rfl; have d5 := cell_kept2 hg2 5 _ rfl; have d6 := cell_kept2 hg2 6 _ rfl; have b0 := cell_kept hg2 0 _ rfl; have b1 := cell_kept hg2 1 _ rfl; have b2 := cell_kept hg2 2 _ rfl; have b3 := cell_kept hg2 3 _ rfl; have b4 := cell_kept hg2 4 _ rfl; have b5 := cell_kept hg2 5 _ rfl; have b6 := cell_kept hg2 6 _ rfl; simp only [World.size_alloc] at b0 b1 b2 b3 b4 b5 b6; have qz0 := cell_kept H2 0 _ rfl; have qz1 := cell_kept H2 1 _ rfl; have qz2 := cell_kept H2 2 _ rfl; have qz3 := cell_kept H2 3 _ rfl; have qz4 := cell_kept H2 4 _ rfl; have qz5 := cell_kept H2 5 _ rfl; have qz6 := cell_kept H2 6 _ rfl; have qz7 := cell_kept H2 7 _ rfl; have qz8 := cell_kept H2 8 _ rfl; have qz9 := cell_kept H2 9 _ rfl; simp only [World.size_alloc] at qz0 qz1 qz2 qz3 qz4 qz5 qz6 qz7 qz8 qz9)
    | (go_at_call 10; with_reducible refine (N2 _ G2).mono ?_; rintro e w3 ⟨rfl, hg3⟩; have H3 := grown_more H2 hg3 (by simp); have G3 := G2.kept hg3; have B3 := grown_more hg2 hg3 (by simp); have e0 := cell_kept B3 0 _ rfl; have e1 := cell_kept B3 1 _ rfl; have e2 := cell_kept B3 2 _ rfl; have e3 := cell_kept B3 3 _ rfl; have e4 := cell_kept B3 4 _ rfl; have e5 := cell_kept B3 5 _ rfl; have e6 := cell_kept B3 6 _ rfl; simp only [World.size_alloc] at e0 e1 e2 e3 e4 e5 e6; have rz0 := cell_kept H3 0 _ rfl; have rz1 := cell_kept H3 1 _ rfl; have rz2 := cell_kept H3 2 _ rfl; have rz3 := cell_kept H3 3 _ rfl; have rz4 := cell_kept H3 4 _ rfl; have rz5 := cell_kept H3 5 _ rfl; have rz6 := cell_kept H3 6 _ rfl; have rz7 := cell_kept H3 7 _ rfl; have rz8 := cell_kept H3 8 _ rfl; have rz9 := cell_kept H3 9 _ rfl; simp only [World.size_alloc] at rz0 rz1 rz2 rz3 rz4 rz5 rz6 rz7 rz8 rz9)
    | (go_at_call 10; with_reducible refine (N3 _ G3).mono ?_; rintro e w4 ⟨rfl, hg4⟩))
  go_ret
  exact ⟨rfl, grown_more (K2 _ _) (grown_more H3 hg4 (by simp)) (by simp)⟩

set_option maxRecDepth 100000 in
set_option maxHeartbeats 3200000 in
theorem union_n (c : Cro.C) (z : Zon.Z) (m dm bm : Nat) (hc : c.mi < 18446744073709551616) (hmm : m < 18446744073709551616) (hA : bits BinOp.and IntKind.u64 (m : Int) 1152921504606846975 = (dm : Int)) (hO : bits BinOp.or IntKind.u64 (c.mi : Int) (dm : Int) = (bm : Int)) (h0 : dm ≠ 0) (a t u f : Int) 
    (N1 : ∀ w, Gd w → Calls Tryz.prog 10 #[crv c, zon z, .int .i64 a] w fun r w' => r = .returned (.tuple #[.int .i64 t, .int .i64 60]) ∧ w.grownBy w' none)
    (N2 : ∀ w, Gd w → Calls Tryz.prog 10 #[.agg #[.int .u64 (dm : Int), .int .u64 c.ho, .int .u64 c.da, .int .u64 c.mo, .int .u64 c.we, .bool c.ad, .bool c.aw], zon z, .int .i64 a] w fun r w' => r = .returned (.tuple #[.int .i64 u, .int .i64 f]) ∧ w.grownBy w' none)
    (N3 : ∀ w, Gd w → Calls Tryz.prog 10 #[.agg #[.int .u64 (bm : Int), .int .u64 c.ho, .int .u64 c.da, .int .u64 c.mo, .int .u64 c.we, .bool c.ad, .bool c.aw], zon z, .int .i64 a] w fun r w' => r = .returned (.tuple #[.int .i64 u, .int .i64 f]) ∧ w.grownBy w' none) (w : World) (hG : Gd w) :
    Calls Tryz.prog 8 #[crv c, .int .u64 m, zon z, .int .i64 a] w fun r w' => r = .returned (.bool true) ∧ w.grownBy w' none := by
  have hnot : ∀ (x : Bool) (w : World), (Op.unary .not (.bool x)).run Tryz.prog w = .ok (.bool (!x)) w := fun _ _ => rfl
  have AW := awake_any
  have K2 := fun o1 o2 => grown_alloc (World.grownBy_alloc w o1 none) o2
  have q0 : ((dm : Int) == 0) = false := by simpa using h0
  go_enter Tryz.func8, Tryz.ntmps8
  go_wp2_with (first
    | (go_at_call 9; go_must (refine (AW _ (hG.kept (K2 _ _))).mono ?_); rintro e w1 ⟨rfl, H1⟩; have G1 := fun o1 o2 => ((hG.kept (K2 _ _)).kept H1).kept (grown_alloc (World.grownBy_alloc w1 o1 none) o2); have H1' := fun o1 => grown_alloc H1 o1; have H1b := fun o1 o2 => grown_alloc (H1' o1) o2; have pc0 := cell_kept2 H1 0 _ rfl; have pc1 := cell_kept2 H1 1 _ rfl; have pc2 := cell_kept2 H1 2 _ rfl; have pc3 := cell_kept2 H1 3 _ rfl; have pc4 := cell_kept2 H1 4 _ rfl; have pc5 := cell_kept2 H1 5 _ rfl; have pc6 := cell_kept2 H1 6 _ rfl; have pp0 := fun o1 => cell_kept2 (H1' o1) 0 _ rfl; have pp1 := fun o1 => cell_kept2 (H1' o1) 1 _ rfl; have pp2 := fun o1 => cell_kept2 (H1' o1) 2 _ rfl; have pp3 := fun o1 => cell_kept2 (H1' o1) 3 _ rfl; have pp4 := fun o1 => cell_kept2 (H1' o1) 4 _ rfl; have pp5 := fun o1 => cell_kept2 (H1' o1) 5 _ rfl; have pp6 := fun o1 => cell_kept2 (H1' o1) 6 _ rfl; have pr0 := fun o1 o2 => cell_kept2 (H1b o1 o2) 0 _ rfl; have pr1 := fun o1 o2 => cell_kept2 (H1b o1 o2) 1 _ rfl; have pr2 := fun o1 o2 => cell_kept2 (H1b o1 o2) 2 _ rfl; have pr3 := fun o1 o2 => cell_kept2 (H1b o1 o2) 3 _ rfl; have pr4 := fun o1 o2 => cell_kept2 (H1b o1 o2) 4 _ rfl; have pr5 := fun o1 o2 => cell_kept2 (H1b o1 o2) 5 _ rfl; have pr6 := fun o1 o2 => cell_kept2 (H1b o1 o2) 6 _ rfl; have pz0 := fun o1 o2 => cell_kept (H1b o1 o2) 0 _ rfl; have pz1 := fun o1 o2 => cell_kept (H1b o1 o2) 1 _ rfl; have pz2 := fun o1 o2 => cell_kept (H1b o1 o2) 2 _ rfl; have pz3 := fun o1 o2 => cell_kept (H1b o1 o2) 3 _ rfl; have pz4 := fun o1 o2 => cell_kept (H1b o1 o2) 4 _ rfl; have pz5 := fun o1 o2 => cell_kept (H1b o1 o2) 5 _ rfl; have pz6 := fun o1 o2 => cell_kept (H1b o1 o2) 6 _ rfl; have pz7 := fun o1 o2 => cell_kept (H1b o1 o2) 7 _ rfl; have pz8 := fun o1 o2 => cell_kept (H1b o1 o2) 8 _ rfl; have pz9 := fun o1 o2 => cell_kept (H1b o1 o2) 9 _ rfl; simp only [World.size_alloc] at pz0 pz1 pz2 pz3 pz4 pz5 pz6 pz7 pz8 pz9)
    | (go_at_call 10; with_reducible refine (N1 _ (G1 _ _)).mono ?_; rintro e w2 ⟨rfl, hg2⟩; have H2 := grown_more (H1b _ _) hg2 (by simp); have G2 := (G1 _ _).kept hg2; have d0 := cell_kept2 hg2 0 _ rfl; have d1 := cell_kept2 hg2 1 _ rfl; have d2 := cell_kept2 hg2 2 _ rfl; have d3 := cell_kept2 hg2 3 _ rfl; have d4 := cell_kept2 hg2 4 _ rfl; have d5 := cell_kept2 hg2 5 _ rfl; have d6 := cell_kept2 hg2 6 _ rfl; have b0 := cell_kept hg2 0 _ rfl; have b1 := cell_kept hg2 1 _ rfl; have b2 := cell_kept hg2 2 _ rfl; have b3 := cell_kept hg2 3 _ rfl; have b4 := cell_kept hg2 4 _ rfl; have b5 := cell_kept hg2 5 _ rfl; have b6 := cell_kept hg2 6 _ rfl; simp only [World.size_alloc] at b0 b1 b2 b3 b4 b5 b6; have qz0 := cell_kept H2 0 _ rfl; have qz1 := cell_kept H2 1 _ rfl; have qz2 := cell_kept H2 2 _ rfl; have qz3 := cell_kept H2 3 _ rfl; have qz4 := cell_kept H2 4 _ rfl; have qz5 := cell_kept H2 5 _ rfl; have qz6 := cell_kept H2 6 _ rfl; have qz7 := cell_kept H2 7 _ rfl; have qz8 := cell_kept H2 8 _ rfl; have qz9 := cell_kept H2 9 _ rfl; simp only [World.size_alloc] at qz0 qz1 qz2 qz3 qz4 qz5 qz6 qz7 qz8 qz9)
    | (go_at_call 10; with_reducible refine (N2 _ G2).mono ?_; rintro e w3 ⟨rfl, hg3⟩; have H3 := grown_more H2 hg3 (by simp); have G3 := G2.kept hg3; have B3 := grown_more hg2 hg3 (by simp); have e0 := cell_kept B3 0 _ rfl; have e1 := cell_kept B3 1 _ rfl; have e2 := cell_kept B3 2 _ rfl; have e3 := cell_kept B3 3 _ rfl; have e4 := cell_kept B3 4 _ rfl; have e5 := cell_kept B3 5 _ rfl; have e6 := cell_kept B3 6 _ rfl; simp only [World.size_alloc] at e0 e1 e2 e3 e4 e5 e6; have rz0 := cell_kept H3 0 _ rfl; have rz1 := cell_kept H3 1 _ rfl; have rz2 := cell_kept H3 2 _ rfl; have rz3 := cell_kept H3 3 _ rfl; have rz4 := cell_kept H3 4 _ rfl; have rz5 := cell_kept H3 5 _ rfl; have rz6 := cell_kept H3 6 _ rfl; have rz7 := cell_kept H3 7 _ rfl; have rz8 := cell_kept H3 8 _ rfl; have rz9 := cell_kept H3 9 _ rfl; simp only [World.size_alloc] at rz0 rz1 rz2 rz3 rz4 rz5 rz6 rz7 rz8 rz9)
    | (go_at_call 10; with_reducible refine (N3 _ G3).mono ?_; rintro e w4 ⟨rfl, hg4⟩))
  go_ret
  exact ⟨rfl, grown_more (K2 _ _) (grown_more H3 hg4 (by simp)) (by simp)⟩

set_option maxRecDepth 100000 in
set_option maxHeartbeats 3200000 in
theorem union_l (c : Cro.C) (z : Zon.Z) (m dm bm : Nat) (hc : c.mi < 18446744073709551616) (hmm : m < 18446744073709551616) (hA : bits BinOp.and IntKind.u64 (m : Int) 1152921504606846975 = (dm : Int)) (hO : bits BinOp.or IntKind.u64 (c.mi : Int) (dm : Int) = (bm : Int)) (h0 : dm ≠ 0) (a t u : Int) (h3 : u < t)
    (N1 : ∀ w, Gd w → Calls Tryz.prog 10 #[crv c, zon z, .int .i64 a] w fun r w' => r = .returned (.tuple #[.int .i64 t, .int .i64 0]) ∧ w.grownBy w' none)
    (N2 : ∀ w, Gd w → Calls Tryz.prog 10 #[.agg #[.int .u64 (dm : Int), .int .u64 c.ho, .int .u64 c.da, .int .u64 c.mo, .int .u64 c.we, .bool c.ad, .bool c.aw], zon z, .int .i64 a] w fun r w' => r = .returned (.tuple #[.int .i64 u, .int .i64 0]) ∧ w.grownBy w' none)
    (N3 : ∀ w, Gd w → Calls Tryz.prog 10 #[.agg #[.int .u64 (bm : Int), .int .u64 c.ho, .int .u64 c.da, .int .u64 c.mo, .int .u64 c.we, .bool c.ad, .bool c.aw], zon z, .int .i64 a] w fun r w' => r = .returned (.tuple #[.int .i64 u, .int .i64 0]) ∧ w.grownBy w' none) (w : World) (hG : Gd w) :
    Calls Tryz.prog 8 #[crv c, .int .u64 m, zon z, .int .i64 a] w fun r w' => r = .returned (.bool true) ∧ w.grownBy w' none := by
  have hnot : ∀ (x : Bool) (w : World), (Op.unary .not (.bool x)).run Tryz.prog w = .ok (.bool (!x)) w := fun _ _ => rfl
  have AW := awake_any
  have K2 := fun o1 o2 => grown_alloc (World.grownBy_alloc w o1 none) o2
  have q0 : ((dm : Int) == 0) = false := by simpa using h0
  have q1 : decide (u < t) = true := decide_eq_true h3
  go_enter Tryz.func8, Tryz.ntmps8
  go_wp2_with (first
    | (go_at_call 9; go_must (refine (AW _ (hG.kept (K2 _ _))).mono ?_); rintro e w1 ⟨rfl, H1⟩; have G1 := fun o1 o2 => ((hG.kept (K2 _ _)).kept H1).kept (grown_alloc (World.grownBy_alloc w1 o1 none) o2); have H1' := fun o1 => grown_alloc H1 o1; have H1b := fun o1 o2 => grown_alloc (H1' o1) o2; have pc0 := cell_kept2 H1 0 _ rfl; have pc1 := cell_kept2 H1 1 _ rfl; have pc2 := cell_kept2 H1 2 _ rfl; have pc3 := cell_kept2 H1 3 _ rfl; have pc4 := cell_kept2 H1 4 _ rfl; have pc5 := cell_kept2 H1 5 _ rfl; have pc6 := cell_kept2 H1 6 _ rfl; have pp0 := fun o1 => cell_kept2 (H1' o1) 0 _ rfl; have pp1 := fun o1 => cell_kept2 (H1' o1) 1 _ rfl; have pp2 := fun o1 => cell_kept2 (H1' o1) 2 _ rfl; have pp3 := fun o1 => cell_kept2 (H1' o1) 3 _ rfl; have pp4 := fun o1 => cell_kept2 (H1' o1) 4 _ rfl; have pp5 := fun o1 => cell_kept2 (H1' o1) 5 _ rfl; have pp6 := fun o1 => cell_kept2 (H1' o1) 6 _ rfl; have pr0 := fun o1 o2 => cell_kept2 (H1b o1 o2) 0 _ rfl; have pr1 := fun o1 o2 => cell_kept2 (H1b o1 o2) 1 _ rfl; have pr2 := fun o1 o2 => cell_kept2 (H1b o1 o2) 2 _ rfl; have pr3 := fun o1 o2 => cell_kept2 (H1b o1 o2) 3 _ rfl; have pr4 := fun o1 o2 => cell_kept2 (H1b o1 o2) 4 _ rfl; have pr5 := fun o1 o2 => cell_kept2 (H1b o1 o2) 5 _ rfl; have pr6 := fun o1 o2 => cell_kept2 (H1b o1 o2) 6 _ rfl; have pz0 := fun o1 o2 => cell_kept (H1b o1 o2) 0 _ rfl; have pz1 := fun o1 o2 => cell_kept (H1b o1 o2) 1 _ rfl; have pz2 := fun o1 o2 => cell_kept (H1b o1 o2) 2 _ rfl; have pz3 := fun o1 o2 => cell_kept (H1b o1 o2) 3 _ rfl; have pz4 := fun o1 o2 => cell_kept (H1b o1 o2) 4 _ rfl; have pz5 := fun o1 o2 => cell_kept (H1b o1 o2) 5 _ rfl; have pz6 := fun o1 o2 => cell_kept (H1b o1 o2) 6 _ rfl; have pz7 := fun o1 o2 => cell_kept (H1b o1 o2) 7 _ rfl; have pz8 := fun o1 o2 => cell_kept (H1b o1 o2) 8 _ rfl; have pz9 := fun o1 o2 => cell_kept (H1b o1 o2) 9 _ rfl; simp only [World.size_alloc] at pz0 pz1 pz2 pz3 pz4 pz5 pz6 pz7 pz8 pz9)
    | (go_at_call 10; with_reducible refine (N1 _ (G1 _ _)).mono ?_; rintro e w2 ⟨rfl, hg2⟩; have H2 := grown_more (H1b _ _) hg2 (by simp); have G2 := (G1 _ _).kept hg2; have d0 := cell_kept2 hg2 0 _ rfl; have d1 := cell_kept2 hg2 1 _ rfl; have d2 := cell_kept2 hg2 2 _ rfl; have d3 := cell_kept2 hg2 3 _ rfl; have d4 := cell_kept2 hg2 4 _ rfl; have d5 := cell_kept2 hg2 5 _ rfl; have d6 := cell_kept2 hg2 6 _ rfl; have b0 := cell_kept hg2 0 _ rfl; have b1 := cell_kept hg2 1 _ rfl; have b2 := cell_kept hg2 2 _ rfl; have b3 := cell_kept hg2 3 _ rfl; have b4 := cell_kept hg2 4 _ rfl; have b5 := cell_kept hg2 5 _ rfl; have b6 := cell_kept hg2 6 _ rfl; simp only [World.size_alloc] at b0 b1 b2 b3 b4 b5 b6; have qz0 := cell_kept H2 0 _ rfl; have qz1 := cell_kept H2 1 _ rfl; have qz2 := cell_kept H2 2 _ rfl; have qz3 := cell_kept H2 3 _ rfl; have qz4 := cell_kept H2 4 _ rfl; have qz5 := cell_kept H2 5 _ rfl; have qz6 := cell_kept H2 6 _ rfl; have qz7 := cell_kept H2 7 _ rfl; have qz8 := cell_kept H2 8 _ rfl; have qz9 := cell_kept H2 9 _ rfl; simp only [World.size_alloc] at qz0 qz1 qz2 qz3 qz4 qz5 qz6 qz7 qz8 qz9)
    | (go_at_call 10; with_reducible refine (N2 _ G2).mono ?_; rintro e w3 ⟨rfl, hg3⟩; have H3 := grown_more H2 hg3 (by simp); have G3 := G2.kept hg3; have B3 := grown_more hg2 hg3 (by simp); have e0 := cell_kept B3 0 _ rfl; have e1 := cell_kept B3 1 _ rfl; have e2 := cell_kept B3 2 _ rfl; have e3 := cell_kept B3 3 _ rfl; have e4 := cell_kept B3 4 _ rfl; have e5 := cell_kept B3 5 _ rfl; have e6 := cell_kept B3 6 _ rfl; simp only [World.size_alloc] at e0 e1 e2 e3 e4 e5 e6; have rz0 := cell_kept H3 0 _ rfl; have rz1 := cell_kept H3 1 _ rfl; have rz2 := cell_kept H3 2 _ rfl; have rz3 := cell_kept H3 3 _ rfl; have rz4 := cell_kept H3 4 _ rfl; have rz5 := cell_kept H3 5 _ rfl; have rz6 := cell_kept H3 6 _ rfl; have rz7 := cell_kept H3 7 _ rfl; have rz8 := cell_kept H3 8 _ rfl; have rz9 := cell_kept H3 9 _ rfl; simp only [World.size_alloc] at rz0 rz1 rz2 rz3 rz4 rz5 rz6 rz7 rz8 rz9)
    | (go_at_call 10; with_reducible refine (N3 _ G3).mono ?_; rintro e w4 ⟨rfl, hg4⟩))
  go_ret
  exact ⟨rfl, grown_more (K2 _ _) (grown_more H3 hg4 (by simp)) (by simp)⟩

set_option maxRecDepth 100000 in
set_option maxHeartbeats 3200000 in
theorem union_r1 (c : Cro.C) (z : Zon.Z) (m dm bm : Nat) (hc : c.mi < 18446744073709551616) (hmm : m < 18446744073709551616) (hA : bits BinOp.and IntKind.u64 (m : Int) 1152921504606846975 = (dm : Int)) (hO : bits BinOp.or IntKind.u64 (c.mi : Int) (dm : Int) = (bm : Int)) (h0 : dm ≠ 0) (a t u : Int) (h3 : ¬ u < t)
    (N1 : ∀ w, Gd w → Calls Tryz.prog 10 #[crv c, zon z, .int .i64 a] w fun r w' => r = .returned (.tuple #[.int .i64 t, .int .i64 0]) ∧ w.grownBy w' none)
    (N2 : ∀ w, Gd w → Calls Tryz.prog 10 #[.agg #[.int .u64 (dm : Int), .int .u64 c.ho, .int .u64 c.da, .int .u64 c.mo, .int .u64 c.we, .bool c.ad, .bool c.aw], zon z, .int .i64 a] w fun r w' => r = .returned (.tuple #[.int .i64 u, .int .i64 0]) ∧ w.grownBy w' none)
    (N3 : ∀ w, Gd w → Calls Tryz.prog 10 #[.agg #[.int .u64 (bm : Int), .int .u64 c.ho, .int .u64 c.da, .int .u64 c.mo, .int .u64 c.we, .bool c.ad, .bool c.aw], zon z, .int .i64 a] w fun r w' => r = .returned (.tuple #[.int .i64 t, .int .i64 0]) ∧ w.grownBy w' none) (w : World) (hG : Gd w) :
    Calls Tryz.prog 8 #[crv c, .int .u64 m, zon z, .int .i64 a] w fun r w' => r = .returned (.bool true) ∧ w.grownBy w' none := by
  have hnot : ∀ (x : Bool) (w : World), (Op.unary .not (.bool x)).run Tryz.prog w = .ok (.bool (!x)) w := fun _ _ => rfl
  have AW := awake_any
  have K2 := fun o1 o2 => grown_alloc (World.grownBy_alloc w o1 none) o2
  have q0 : ((dm : Int) == 0) = false := by simpa using h0
  have q1 : decide (u < t) = false := decide_eq_false h3
  go_enter Tryz.func8, Tryz.ntmps8
  go_wp2_with (first
    | (go_at_call 9; go_must (refine (AW _ (hG.kept (K2 _ _))).mono ?_); rintro e w1 ⟨rfl, H1⟩; have G1 := fun o1 o2 => ((hG.kept (K2 _ _)).kept H1).kept (grown_alloc (World.grownBy_alloc w1 o1 none) o2); have H1' := fun o1 => grown_alloc H1 o1; have H1b := fun o1 o2 => grown_alloc (H1' o1) o2; have pc0 := cell_kept2 H1 0 _ rfl; have pc1 := cell_kept2 H1 1 _ rfl; have pc2 := cell_kept2 H1 2 _ rfl; have pc3 := cell_kept2 H1 3 _ rfl; have pc4 := cell_kept2 H1 4 _ rfl; have pc5 := cell_kept2 H1 5 _ rfl; have pc6 := cell_kept2 H1 6 _ rfl; have pp0 := fun o1 => cell_kept2 (H1' o1) 0 _ rfl; have pp1 := fun o1 => cell_kept2 (H1' o1) 1 _ rfl; have pp2 := fun o1 => cell_kept2 (H1' o1) 2 _ rfl; have pp3 := fun o1 => cell_kept2 (H1' o1) 3 _ rfl; have pp4 := fun o1 => cell_kept2 (H1' o1) 4 _ rfl; have pp5 := fun o1 => cell_kept2 (H1' o1) 5 _ rfl; have pp6 := fun o1 => cell_kept2 (H1' o1) 6 _ rfl; have pr0 := fun o1 o2 => cell_kept2 (H1b o1 o2) 0 _ rfl; have pr1 := fun o1 o2 => cell_kept2 (H1b o1 o2) 1 _ rfl; have pr2 := fun o1 o2 => cell_kept2 (H1b o1 o2) 2 _ rfl; have pr3 := fun o1 o2 => cell_kept2 (H1b o1 o2) 3 _ rfl; have pr4 := fun o1 o2 => cell_kept2 (H1b o1 o2) 4 _ rfl; have pr5 := fun o1 o2 => cell_kept2 (H1b o1 o2) 5 _ rfl; have pr6 := fun o1 o2 => cell_kept2 (H1b o1 o2) 6 _ rfl; have pz0 := fun o1 o2 => cell_kept (H1b o1 o2) 0 _ rfl; have pz1 := fun o1 o2 => cell_kept (H1b o1 o2) 1 _ rfl; have pz2 := fun o1 o2 => cell_kept (H1b o1 o2) 2 _ rfl; have pz3 := fun o1 o2 => cell_kept (H1b o1 o2) 3 _ rfl; have pz4 := fun o1 o2 => cell_kept (H1b o1 o2) 4 _ rfl; have pz5 := fun o1 o2 => cell_kept (H1b o1 o2) 5 _ rfl; have pz6 := fun o1 o2 => cell_kept (H1b o1 o2) 6 _ rfl; have pz7 := fun o1 o2 => cell_kept (H1b o1 o2) 7 _ rfl; have pz8 := fun o1 o2 => cell_kept (H1b o1 o2) 8 _ rfl; have pz9 := fun o1 o2 => cell_kept (H1b o1 o2) 9 _ rfl; simp only [World.size_alloc] at pz0 pz1 pz2 pz3 pz4 pz5 pz6 pz7 pz8 pz9)
    | (go_at_call 10; with_reducible refine (N1 _ (G1 _ _)).mono ?_; rintro e w2 ⟨rfl, hg2⟩; have H2 := grown_more (H1b _ _) hg2 (by simp); have G2 := (G1 _ _).kept hg2; have d0 := cell_kept2 hg2 0 _ rfl; have d1 := cell_kept2 hg2 1 _ rfl; have d2 := cell_kept2 hg2 2 _ rfl; have d3 := cell_kept2 hg2 3 _ rfl; have d4 := cell_kept2 hg2 4 _ rfl; have d5 := cell_kept2 hg2 5 _ rfl; have d6 := cell_kept2 hg2 6 _ rfl; have b0 := cell_kept hg2 0 _ rfl; have b1 := cell_kept hg2 1 _ rfl; have b2 := cell_kept hg2 2 _ rfl; have b3 := cell_kept hg2 3 _ rfl; have b4 := cell_kept hg2 4 _ rfl; have b5 := cell_kept hg2 5 _ rfl; have b6 := cell_kept hg2 6 _ rfl; simp only [World.size_alloc] at b0 b1 b2 b3 b4 b5 b6; have qz0 := cell_kept H2 0 _ rfl; have qz1 := cell_kept H2 1 _ rfl; have qz2 := cell_kept H2 2 _ rfl; have qz3 := cell_kept H2 3 _ rfl; have qz4 := cell_kept H2 4 _ rfl; have qz5 := cell_kept H2 5 _ rfl; have qz6 := cell_kept H2 6 _ rfl; have qz7 := cell_kept H2 7 _ rfl; have qz8 := cell_kept H2 8 _ rfl; have qz9 := cell_kept H2 9 _ rfl; simp only [World.size_alloc] at qz0 qz1 qz2 qz3 qz4 qz5 qz6 qz7 qz8 qz9)
    | (go_at_call 10; with_reducible refine (N2 _ G2).mono ?_; rintro e w3 ⟨rfl, hg3⟩; have H3 := grown_more H2 hg3 (by simp); have G3 := G2.kept hg3; have B3 := grown_more hg2 hg3 (by simp); have e0 := cell_kept B3 0 _ rfl; have e1 := cell_kept B3 1 _ rfl; have e2 := cell_kept B3 2 _ rfl; have e3 := cell_kept B3 3 _ rfl; have e4 := cell_kept B3 4 _ rfl; have e5 := cell_kept B3 5 _ rfl; have e6 := cell_kept B3 6 _ rfl; simp only [World.size_alloc] at e0 e1 e2 e3 e4 e5 e6; have rz0 := cell_kept H3 0 _ rfl; have rz1 := cell_kept H3 1 _ rfl; have rz2 := cell_kept H3 2 _ rfl; have rz3 := cell_kept H3 3 _ rfl; have rz4 := cell_kept H3 4 _ rfl; have rz5 := cell_kept H3 5 _ rfl; have rz6 := cell_kept H3 6 _ rfl; have rz7 := cell_kept H3 7 _ rfl; have rz8 := cell_kept H3 8 _ rfl; have rz9 := cell_kept H3 9 _ rfl; simp only [World.size_alloc] at rz0 rz1 rz2 rz3 rz4 rz5 rz6 rz7 rz8 rz9)
    | (go_at_call 10; with_reducible refine (N3 _ G3).mono ?_; rintro e w4 ⟨rfl, hg4⟩))
  go_ret
  exact ⟨rfl, grown_more (K2 _ _) (grown_more H3 hg4 (by simp)) (by simp)⟩

set_option maxRecDepth 100000 in
set_option maxHeartbeats 3200000 in
theorem union_r2 (c : Cro.C) (z : Zon.Z) (m dm bm : Nat) (hc : c.mi < 18446744073709551616) (hmm : m < 18446744073709551616) (hA : bits BinOp.and IntKind.u64 (m : Int) 1152921504606846975 = (dm : Int)) (hO : bits BinOp.or IntKind.u64 (c.mi : Int) (dm : Int) = (bm : Int)) (h0 : dm ≠ 0) (a t u f : Int) (h2 : f ≠ 0)
    (N1 : ∀ w, Gd w → Calls Tryz.prog 10 #[crv c, zon z, .int .i64 a] w fun r w' => r = .returned (.tuple #[.int .i64 t, .int .i64 0]) ∧ w.grownBy w' none)
    (N2 : ∀ w, Gd w → Calls Tryz.prog 10 #[.agg #[.int .u64 (dm : Int), .int .u64 c.ho, .int .u64 c.da, .int .u64 c.mo, .int .u64 c.we, .bool c.ad, .bool c.aw], zon z, .int .i64 a] w fun r w' => r = .returned (.tuple #[.int .i64 u, .int .i64 f]) ∧ w.grownBy w' none)
    (N3 : ∀ w, Gd w → Calls Tryz.prog 10 #[.agg #[.int .u64 (bm : Int), .int .u64 c.ho, .int .u64 c.da, .int .u64 c.mo, .int .u64 c.we, .bool c.ad, .bool c.aw], zon z, .int .i64 a] w fun r w' => r = .returned (.tuple #[.int .i64 t, .int .i64 0]) ∧ w.grownBy w' none) (w : World) (hG : Gd w) :
    Calls Tryz.prog 8 #[crv c, .int .u64 m, zon z, .int .i64 a] w fun r w' => r = .returned (.bool true) ∧ w.grownBy w' none := by
  have hnot : ∀ (x : Bool) (w : World), (Op.unary .not (.bool x)).run Tryz.prog w = .ok (.bool (!x)) w := fun _ _ => rfl
  have AW := awake_any
  have K2 := fun o1 o2 => grown_alloc (World.grownBy_alloc w o1 none) o2
  have q0 : ((dm : Int) == 0) = false := by simpa using h0
  have q1 : (f == 0) = false := by simpa using h2
  go_enter Tryz.func8, Tryz.ntmps8
  go_wp2_with (first
    | (go_at_call 9; go_must (refine (AW _ (hG.kept (K2 _ _))).mono ?_); rintro e w1 ⟨rfl, H1⟩; have G1 := fun o1 o2 => ((hG.kept (K2 _ _)).kept H1).kept (grown_alloc (World.grownBy_alloc w1 o1 none) o2); have H1' := fun o1 => grown_alloc H1 o1; have H1b := fun o1 o2 => grown_alloc (H1' o1) o2; have pc0 := cell_kept2 H1 0 _ rfl; have pc1 := cell_kept2 H1 1 _ rfl; have pc2 := cell_kept2 H1 2 _ rfl; have pc3 := cell_kept2 H1 3 _ rfl; have pc4 := cell_kept2 H1 4 _ rfl; have pc5 := cell_kept2 H1 5 _ rfl; have pc6 := cell_kept2 H1 6 _ rfl; have pp0 := fun o1 => cell_kept2 (H1' o1) 0 _ rfl; have pp1 := fun o1 => cell_kept2 (H1' o1) 1 _ rfl; have pp2 := fun o1 => cell_kept2 (H1' o1) 2 _ rfl; have pp3 := fun o1 => cell_kept2 (H1' o1) 3 _ rfl; have pp4 := fun o1 => cell_kept2 (H1' o1) 4 _ rfl; have pp5 := fun o1 => cell_kept2 (H1' o1) 5 _ rfl; have pp6 := fun o1 => cell_kept2 (H1' o1) 6 _ rfl; have pr0 := fun o1 o2 => cell_kept2 (H1b o1 o2) 0 _ rfl; have pr1 := fun o1 o2 => cell_kept2 (H1b o1 o2) 1 _ rfl; have pr2 := fun o1 o2 => cell_kept2 (H1b o1 o2) 2 _ rfl; have pr3 := fun o1 o2 => cell_kept2 (H1b o1 o2) 3 _ rfl; have pr4 := fun o1 o2 => cell_kept2 (H1b o1 o2) 4 _ rfl; have pr5 := fun o1 o2 => cell_kept2 (H1b o1 o2) 5 _ rfl; have pr6 := fun o1 o2 => cell_kept2 (H1b o1 o2) 6 _ rfl; have pz0 := fun o1 o2 => cell_kept (H1b o1 o2) 0 _ rfl; have pz1 := fun o1 o2 => cell_kept (H1b o1 o2) 1 _ rfl; have pz2 := fun o1 o2 => cell_kept (H1b o1 o2) 2 _ rfl; have pz3 := fun o1 o2 => cell_kept (H1b o1 o2) 3 _ rfl; have pz4 := fun o1 o2 => cell_kept (H1b o1 o2) 4 _ rfl; have pz5 := fun o1 o2 => cell_kept (H1b o1 o2) 5 _ rfl; have pz6 := fun o1 o2 => cell_kept (H1b o1 o2) 6 _ rfl; have pz7 := fun o1 o2 => cell_kept (H1b o1 o2) 7 _ rfl; have pz8 := fun o1 o2 => cell_kept (H1b o1 o2) 8 _ rfl; have pz9 := fun o1 o2 => cell_kept (H1b o1 o2) 9 _ rfl; simp only [World.size_alloc] at pz0 pz1 pz2 pz3 pz4 pz5 pz6 pz7 pz8 pz9)
    | (go_at_call 10; with_reducible refine (N1 _ (G1 _ _)).mono ?_; rintro e w2 ⟨rfl, hg2⟩; have H2 := grown_more (H1b _ _) hg2 (by simp); have G2 := (G1 _ _).kept hg2; have d0 := cell_kept2 hg2 0 _ rfl; have d1 := cell_kept2 hg2 1 _ rfl; have d2 := cell_kept2 hg2 2 _ rfl; have d3 := cell_kept2 hg2 3 _ rfl; have d4 := cell_kept2 hg2 4 _ rfl; have d5 := cell_kept2 hg2 5 _ rfl; have d6 := cell_kept2 hg2 6 _ rfl; have b0 := cell_kept hg2 0 _ rfl; have b1 := cell_kept hg2 1 _ rfl; have b2 := cell_kept hg2 2 _ rfl; have b3 := cell_kept hg2 3 _ rfl; have b4 := cell_kept hg2 4 _ rfl; have b5 := cell_kept hg2 5 _ rfl; have b6 := cell_kept hg2 6 _ rfl; simp only [World.size_alloc] at b0 b1 b2 b3 b4 b5 b6; have qz0 := cell_kept H2 0 _ rfl; have qz1 := cell_kept H2 1 _ rfl; have qz2 := cell_kept H2 2 _ rfl; have qz3 := cell_kept H2 3 _ rfl; have qz4 := cell_kept H2 4 _ rfl; have qz5 := cell_kept H2 5 _ rfl; have qz6 := cell_kept H2 6 _ rfl; have qz7 := cell_kept H2 7 _ rfl; have qz8 := cell_kept H2 8 _ rfl; have qz9 := cell_kept H2 9 _ rfl; simp only [World.size_alloc] at qz0 qz1 qz2 qz3 qz4 qz5 qz6 qz7 qz8 qz9)
    | (go_at_call 10; with_reducible refine (N2 _ G2).mono ?_; rintro e w3 ⟨rfl, hg3⟩; have H3 := grown_more H2 hg3 (by simp); have G3 := G2.kept hg3; have B3 := grown_more hg2 hg3 (by simp); have e0 := cell_kept B3 0 _ rfl; have e1 := cell_kept B3 1 _ rfl; have e2 := cell_kept B3 2 _ rfl; have e3 := cell_kept B3 3 _ rfl; have e4 := cell_kept B3 4 _ rfl; have e5 := cell_kept B3 5 _ rfl; have e6 := cell_kept B3 6 _ rfl; simp only [World.size_alloc] at e0 e1 e2 e3 e4 e5 e6; have rz0 := cell_kept H3 0 _ rfl; have rz1 := cell_kept H3 1 _ rfl; have rz2 := cell_kept H3 2 _ rfl; have rz3 := cell_kept H3 3 _ rfl; have rz4 := cell_kept H3 4 _ rfl; have rz5 := cell_kept H3 5 _ rfl; have rz6 := cell_kept H3 6 _ rfl; have rz7 := cell_kept H3 7 _ rfl; have rz8 := cell_kept H3 8 _ rfl; have rz9 := cell_kept H3 9 _ rfl; simp only [World.size_alloc] at rz0 rz1 rz2 rz3 rz4 rz5 rz6 rz7 rz8 rz9)
    | (go_at_call 10; with_reducible refine (N3 _ G3).mono ?_; rintro e w4 ⟨rfl, hg4⟩))
  go_ret
  exact ⟨rfl, grown_more (K2 _ _) (grown_more H3 hg4 (by simp)) (by simp)⟩

set_option maxRecDepth 100000 in
set_option maxHeartbeats 3200000 in
theorem union_zero (c : Cro.C) (z : Zon.Z) (m bm : Nat) (hA : bits BinOp.and IntKind.u64 (m : Int) 1152921504606846975 = 0) (hO : bits BinOp.or IntKind.u64 (c.mi : Int) 0 = (bm : Int)) (a : Int) (w : World) (hG : Gd w) :
    Calls Tryz.prog 8 #[crv c, .int .u64 m, zon z, .int .i64 a] w fun r w' => r = .returned (.bool true) ∧ w.grownBy w' none := by
  have hnot : ∀ (x : Bool) (w : World), (Op.unary .not (.bool x)).run Tryz.prog w = .ok (.bool (!x)) w := fun _ _ => rfl
  have AW := awake_any
  have K2 := fun o1 o2 => grown_alloc (World.grownBy_alloc w o1 none) o2
  go_enter Tryz.func8, Tryz.ntmps8
  go_wp2_with (go_at_call 9; go_must (refine (AW _ (hG.kept (K2 _ _))).mono ?_); rintro e w1 ⟨rfl, H1⟩; have H1' := fun o1 => grown_alloc H1 o1; have H1b := fun o1 o2 => grown_alloc (H1' o1) o2; have p0 := cell_kept2 H1 0 _ rfl; have p1 := cell_kept2 H1 1 _ rfl; have p2 := cell_kept2 H1 2 _ rfl; have p3 := cell_kept2 H1 3 _ rfl; have p4 := cell_kept2 H1 4 _ rfl; have p5 := cell_kept2 H1 5 _ rfl; have p6 := cell_kept2 H1 6 _ rfl; have pp0 := fun o1 => cell_kept2 (H1' o1) 0 _ rfl; have pp1 := fun o1 => cell_kept2 (H1' o1) 1 _ rfl; have pp2 := fun o1 => cell_kept2 (H1' o1) 2 _ rfl; have pp3 := fun o1 => cell_kept2 (H1' o1) 3 _ rfl; have pp4 := fun o1 => cell_kept2 (H1' o1) 4 _ rfl; have pp5 := fun o1 => cell_kept2 (H1' o1) 5 _ rfl; have pp6 := fun o1 => cell_kept2 (H1' o1) 6 _ rfl; have pr0 := fun o1 o2 => cell_kept2 (H1b o1 o2) 0 _ rfl; have pr1 := fun o1 o2 => cell_kept2 (H1b o1 o2) 1 _ rfl; have pr2 := fun o1 o2 => cell_kept2 (H1b o1 o2) 2 _ rfl; have pr3 := fun o1 o2 => cell_kept2 (H1b o1 o2) 3 _ rfl; have pr4 := fun o1 o2 => cell_kept2 (H1b o1 o2) 4 _ rfl; have pr5 := fun o1 o2 => cell_kept2 (H1b o1 o2) 5 _ rfl; have pr6 := fun o1 o2 => cell_kept2 (H1b o1 o2) 6 _ rfl)
  go_ret
  exact ⟨rfl, grown_more (K2 _ _) (H1b _ _) (by simp)⟩

theorem dueUnion.walk (W : World) (hX : Gd W) (v0 : Value) (o0 : ∃ c : Cro.C, v0 = crv c ∧ c.ok) (x : Int) (hx : Lit.wf (.int .u64 x) = true) (v2 : Value) (o2 : ∃ z, v2 = zon z) (a : Int) (ha : Lit.wf (.int .i64 a) = true) :
    Calls Tryz.prog 8 #[v0, .int .u64 x, v2, .int .i64 a] W fun e W' => e = .returned (.bool true) ∧ Below W.heap.size W W' := by
  obtain ⟨c, rfl, hc⟩ := o0
  obtain ⟨z, rfl⟩ := o2
  have hw' : IntKind.u64.min ≤ x ∧ x ≤ IntKind.u64.max := by simpa [Lit.wf] using hx
  have e1 : IntKind.u64.min = 0 := by decide
  have e2 : IntKind.u64.max = 18446744073709551615 := by decide
  obtain ⟨m, rfl⟩ : ∃ m : Nat, x = m := ⟨x.toNat, by omega⟩
  have hm : m < 18446744073709551616 := by omega
  refine Calls.mono (?_ : Calls Tryz.prog 8 #[crv c, .int .u64 m, zon z, .int .i64 a] W fun r w' => r = .returned (.bool true) ∧ W.grownBy w' none) fun e W' ⟨h1, h2⟩ => ⟨h1, grown_below h2⟩
  have hA : bits BinOp.and IntKind.u64 (m : Int) 1152921504606846975 = ((m &&& 1152921504606846975 : Nat) : Int) := bits_and_u64_nat m 1152921504606846975 hm (by decide)
  have hdl : m &&& 1152921504606846975 < 18446744073709551616 := Nat.lt_of_le_of_lt Nat.and_le_left hm
  have hO : bits BinOp.or IntKind.u64 (c.mi : Int) ((m &&& 1152921504606846975 : Nat) : Int) = ((c.mi ||| (m &&& 1152921504606846975) : Nat) : Int) := bits_or_u64_nat c.mi _ hc.mi hdl
  by_cases h0 : m &&& 1152921504606846975 = 0
  · rw [h0] at hA hO
    exact union_zero c z m _ hA hO a W hX
  · have hbl : c.mi ||| (m &&& 1152921504606846975) < 18446744073709551616 := Nat.or_lt_two_pow (n := 64) hc.mi hdl
    obtain ⟨P, hP⟩ := Due.has_P c z
    obtain ⟨Q, hQ⟩ := Due.has_P (withMi c (m &&& 1152921504606846975)) z
    obtain ⟨R, hR⟩ := Due.has_P (withMi c (c.mi ||| (m &&& 1152921504606846975))) z
    have N1 := fun w hG => Next_any c hc z P hP a w hG
    have N2 := fun w hG => Next_any (withMi c (m &&& 1152921504606846975)) ⟨hdl, hc.ho, hc.da, hc.mo, hc.we⟩ z Q hQ a w hG
    have N3 := fun w hG => Next_any (withMi c (c.mi ||| (m &&& 1152921504606846975))) ⟨hbl, hc.ho, hc.da, hc.mo, hc.we⟩ z R hR a w hG
    have HC := union_cases c m z a P Q R hP hQ hR h0
    generalize (Due.nxV P c z a).1 = t at *
    generalize (Due.nxV P c z a).2 = e at *
    generalize (Due.nxV Q (withMi c (m &&& 1152921504606846975)) z a).1 = u at *
    generalize (Due.nxV Q (withMi c (m &&& 1152921504606846975)) z a).2 = f at *
    generalize (Due.nxV R (withMi c (c.mi ||| (m &&& 1152921504606846975))) z a).1 = v at *
    generalize (Due.nxV R (withMi c (c.mi ||| (m &&& 1152921504606846975))) z a).2 = g at *
    rcases HC with ⟨rfl⟩ | ⟨h1, h2, h3, rfl⟩ | ⟨rfl, rfl, rfl⟩ | ⟨rfl, rfl, h3, rfl, rfl⟩ | ⟨rfl, rfl, h3, rfl, rfl⟩ | ⟨rfl, h2, rfl, rfl⟩
    · exact union_a1 c z m _ _ hc.mi hm hA hO h0 a _ _ _ _ _ N1 N2 N3 W hX
    · exact union_a2 c z m _ _ hc.mi hm hA hO h0 a _ _ _ _ _ h1 h2 h3 N1 N2 N3 W hX
    · exact union_n c z m _ _ hc.mi hm hA hO h0 a _ _ _ N1 N2 N3 W hX
    · exact union_l c z m _ _ hc.mi hm hA hO h0 a _ _ h3 N1 N2 N3 W hX
    · exact union_r1 c z m _ _ hc.mi hm hA hO h0 a _ _ h3 N1 N2 N3 W hX
    · exact union_r2 c z m _ _ hc.mi hm hA hO h0 a _ _ _ h2 N1 N2 N3 W hX

end Go.Proofs.YtegekjgjabckgaaGreatDoor
