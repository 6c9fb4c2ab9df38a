/- The statement that later instants have no earlier occurrences: its walk. -/
import Derived.Test.YtegekjgjabckgaaGreatDoorDAwake
import Derived.Test.YtegekjgjabckgaaGreatDoorDArgs
namespace Go.Proofs.YtegekjgjabckgaaGreatDoor
open Go.RowKit
set_option linter.unusedVariables false

theorem Due.nxV_bad {P : Nat → Bool} {c : Cro.C} {z : Zon.Z} {a : Int} (h : (Due.nxV P c z a).2 ≠ 0) : (Due.nxV P c z a).1 = 0 := by
  unfold Due.nxV at h ⊢
  split
  · rfl
  · split
    · rfl
    · split
      · rfl
      · cases hx : Due.nx P 226157759 (a + 1).toNat with
        | none => rfl
        | some t => rename_i h1 h2 h3; rw [if_neg h1, if_neg h2, if_neg h3, hx] at h; exact absurd rfl h
theorem Due.nxV_ok {P : Nat → Bool} {c : Cro.C} {z : Zon.Z} {a : Int} (h : (Due.nxV P c z a).2 = 0) : c.right ∧ z.ok ∧ -1 ≤ a ∧ a ≤ 226157759 ∧ ∃ n : Nat, (Due.nxV P c z a).1 = n ∧ Due.nx P 226157759 (a + 1).toNat = some n := by
  unfold Due.nxV at h ⊢
  split at h
  · exact absurd h (by decide)
  · split at h
    · exact absurd h (by decide)
    · split at h
      · exact absurd h (by decide)
      · rename_i h1 h2 h3
        rw [if_neg h1, if_neg h2, if_neg h3]
        cases hx : Due.nx P 226157759 (a + 1).toNat with
        | none => rw [hx] at h; exact absurd h (by decide)
        | some t => exact ⟨Decidable.not_not.mp h1, Decidable.not_not.mp h2, by omega, by omega, t, rfl, rfl⟩
theorem Due.nxV_none {P : Nat → Bool} {c : Cro.C} {z : Zon.Z} {a : Int} (h : (Due.nxV P c z a).2 = 60) : c.right ∧ z.ok ∧ -1 ≤ a ∧ a ≤ 226157759 ∧ Due.nx P 226157759 (a + 1).toNat = none := by
  unfold Due.nxV at h
  split at h
  · exact absurd h (by decide)
  · split at h
    · exact absurd h (by decide)
    · split at h
      · exact absurd h (by decide)
      · rename_i h1 h2 h3
        cases hx : Due.nx P 226157759 (a + 1).toNat with
        | none => exact ⟨Decidable.not_not.mp h1, Decidable.not_not.mp h2, by omega, by omega, rfl⟩
        | some t => rw [hx] at h; simp at h
theorem Due.nxV_at {P : Nat → Bool} {c : Cro.C} {z : Zon.Z} {a : Int} {n : Nat} (hr : c.right) (hz : z.ok) (h1 : -1 ≤ a) (h2 : a ≤ 226157759) (h : Due.nx P 226157759 (a + 1).toNat = some n) : Due.nxV P c z a = ((n : Int), 0) := by
  unfold Due.nxV
  rw [if_neg (fun x => x hr), if_neg (fun x => x hz), if_neg (by omega), h]
theorem Due.nxV_no {P : Nat → Bool} {c : Cro.C} {z : Zon.Z} {a : Int} (hr : c.right) (hz : z.ok) (h1 : -1 ≤ a) (h2 : a ≤ 226157759) (h : Due.nx P 226157759 (a + 1).toNat = none) : Due.nxV P c z a = (0, 60) := by
  unfold Due.nxV
  rw [if_neg (fun x => x hr), if_neg (fun x => x hz), if_neg (by omega), h]

/-- Where the statement's walk may come. -/
inductive RC (b t e u f : Int) : Prop
  | b1 (h1 : e ≠ 0) (h2 : e ≠ 60) (h3 : t = 0) (h4 : u = 0)
  | b2 (h1 : e ≠ 0) (h2 : e ≠ 60) (h3 : t = 0) (h4 : u ≠ 0) (h5 : f = 0)
  | c1 (h1 : e = 0) (h2 : f ≠ 0) (h3 : f ≠ 60) (h4 : u = 0) (h5 : t = 0)
  | c2 (h1 : e = 0) (h2 : f ≠ 0) (h3 : f ≠ 60) (h4 : u = 0) (h5 : t ≠ 0)
  | c3 (h1 : e = 60) (h2 : f ≠ 0) (h3 : f ≠ 60) (h4 : u = 0) (h5 : t = 0)
  | d (h1 : e = 60) (h2 : f = 60)
  | g1 (h1 : e = 0) (h2 : f = 0) (h3 : u = t) (h4 : b < t)
  | g2 (h1 : e = 0) (h2 : f = 0) (h3 : t ≤ u) (h4 : ¬ b < t)
  | g3 (h1 : e = 0) (h2 : f = 60) (h4 : ¬ b < t)
theorem rises_cases (P : Nat → Bool) (c : Cro.C) (z : Zon.Z) (a b : Int) (hab : a ≤ b) : RC b (Due.nxV P c z a).1 (Due.nxV P c z a).2 (Due.nxV P c z b).1 (Due.nxV P c z b).2 := by
  by_cases e0 : (Due.nxV P c z a).2 = 0
  · obtain ⟨hr, hz, a1, a2, n, hn, hx⟩ := Due.nxV_ok e0
    by_cases f0 : (Due.nxV P c z b).2 = 0
    · obtain ⟨_, _, b1, b2, m, hm, hy⟩ := Due.nxV_ok f0
      have hle := Due.nx_rise hx (s' := (b + 1).toNat) (by omega) hy
      by_cases hb : b < (Due.nxV P c z a).1
      · refine .g1 e0 f0 ?_ hb
        have := Due.nx_same hx (s' := (b + 1).toNat) (by omega) (by omega)
        rw [hy] at this
        injection this with this
        omega
      · exact .g2 e0 f0 (by omega) hb
    · by_cases f60 : (Due.nxV P c z b).2 = 60
      · obtain ⟨_, _, b1, b2, hy⟩ := Due.nxV_none f60
        refine .g3 e0 f60 fun hb => ?_
        have := Due.nx_same hx (s' := (b + 1).toNat) (by omega) (by omega)
        rw [hy] at this
        cases this
      · by_cases ht : (Due.nxV P c z a).1 = 0
        · exact .c1 e0 f0 f60 (Due.nxV_bad f0) ht
        · exact .c2 e0 f0 f60 (Due.nxV_bad f0) ht
  · have ht := Due.nxV_bad e0
    by_cases e60 : (Due.nxV P c z a).2 = 60
    · obtain ⟨hr, hz, a1, a2, hx⟩ := Due.nxV_none e60
      by_cases f60 : (Due.nxV P c z b).2 = 60
      · exact .d e60 f60
      · have f0 : (Due.nxV P c z b).2 ≠ 0 := fun f0 => by
          obtain ⟨_, _, b1, b2, m, hm, hy⟩ := Due.nxV_ok f0
          rw [Due.nx_gone hx (s' := (b + 1).toNat) (by omega)] at hy
          cases hy
        exact .c3 e60 f0 f60 (Due.nxV_bad f0) ht
    · by_cases hu : (Due.nxV P c z b).1 = 0
      · exact .b1 e0 e60 ht hu
      · refine .b2 e0 e60 ht hu ?_
        by_cases f0 : (Due.nxV P c z b).2 = 0
        · exact f0
        · exact absurd (Due.nxV_bad f0) hu


set_option maxRecDepth 100000 in
set_option maxHeartbeats 3200000 in
theorem rises_b1 (c : Cro.C) (z : Zon.Z) (p q x y e f : Int) (hpq : (p = x ∧ q = y ∧ x ≤ y) ∨ (p = y ∧ q = x ∧ x < y)) (h1 : e ≠ 0) (h2 : e ≠ 60)
    (N1 : ∀ w, Gd w → Calls Tryz.prog 10 #[crv c, zon z, .int .i64 x] w fun r w' => r = .returned (.tuple #[.int .i64 0, .int .i64 e]) ∧ w.grownBy w' none)
    (N2 : ∀ w, Gd w → Calls Tryz.prog 10 #[crv c, zon z, .int .i64 y] w fun r w' => r = .returned (.tuple #[.int .i64 0, .int .i64 f]) ∧ w.grownBy w' none) (w : World) (hG : Gd w) :
    Calls Tryz.prog 7 #[crv c, zon z, .int .i64 p, .int .i64 q] w fun r w' => r = .returned (.bool true) ∧ w.grownBy w' none := by
  have hnot : ∀ (x : Bool) (w : World), (Op.unary .not (.bool x)).run Tryz.prog w = .ok (.bool (!x)) w := fun _ _ => rfl
  have AW := awake_any
  have K2 := fun o1 o2 => grown_alloc (World.grownBy_alloc w o1 none) o2
  have q1 : (e != 0) = true := by simpa using h1
  have q2 : (e != 60) = true := by simpa using h2
  rcases hpq with ⟨rfl, rfl, hxy⟩ | ⟨rfl, rfl, hxy⟩
  · have z1 : decide (q < p) = false := decide_eq_false (by omega)
    go_enter Tryz.func7, Tryz.ntmps7
    go_wp2_with (first
      | (go_at_call 9; go_must (refine (AW _ (hG.kept (K2 _ _))).mono ?_); rintro e w1 ⟨rfl, H1⟩; have G1 := (hG.kept (K2 _ _)).kept H1; have pc0 := cell_kept2 H1 0 _ rfl; have pc1 := cell_kept2 H1 1 _ rfl; have pc2 := cell_kept2 H1 2 _ rfl; have pc3 := cell_kept2 H1 3 _ rfl; have pc4 := cell_kept2 H1 4 _ rfl; have pc5 := cell_kept2 H1 5 _ rfl; have pc6 := cell_kept2 H1 6 _ rfl; have pz0 := cell_kept H1 0 _ rfl; have pz1 := cell_kept H1 1 _ rfl; have pz2 := cell_kept H1 2 _ rfl; have pz3 := cell_kept H1 3 _ rfl; have pz4 := cell_kept H1 4 _ rfl; have pz5 := cell_kept H1 5 _ rfl; have pz6 := cell_kept H1 6 _ rfl; have pz7 := cell_kept H1 7 _ rfl; have pz8 := cell_kept H1 8 _ rfl; have pz9 := cell_kept H1 9 _ rfl; simp only [World.size_alloc] at pz0 pz1 pz2 pz3 pz4 pz5 pz6 pz7 pz8 pz9)
      | (go_at_call 10; with_reducible refine (N1 _ G1).mono ?_; rintro e w2 ⟨rfl, hg2⟩; have H2 := grown_more H1 hg2 (by simp); have G2 := G1.kept hg2; have qc0 := cell_kept2 H2 0 _ rfl; have qc1 := cell_kept2 H2 1 _ rfl; have qc2 := cell_kept2 H2 2 _ rfl; have qc3 := cell_kept2 H2 3 _ rfl; have qc4 := cell_kept2 H2 4 _ rfl; have qc5 := cell_kept2 H2 5 _ rfl; have qc6 := cell_kept2 H2 6 _ rfl; have qz0 := cell_kept H2 0 _ rfl; have qz1 := cell_kept H2 1 _ rfl; have qz2 := cell_kept H2 2 _ rfl; have qz3 := cell_kept H2 3 _ rfl; have qz4 := cell_kept H2 4 _ rfl; have qz5 := cell_kept H2 5 _ rfl; have qz6 := cell_kept H2 6 _ rfl; have qz7 := cell_kept H2 7 _ rfl; have qz8 := cell_kept H2 8 _ rfl; have qz9 := cell_kept H2 9 _ rfl; simp only [World.size_alloc] at qz0 qz1 qz2 qz3 qz4 qz5 qz6 qz7 qz8 qz9)
      | (go_at_call 10; with_reducible refine (N2 _ G2).mono ?_; rintro e w3 ⟨rfl, hg3⟩; have H3 := grown_more H2 hg3 (by simp); have G3 := G2.kept hg3))
    go_ret
    exact ⟨rfl, grown_more (K2 _ _) H3 (by simp)⟩
  · have z1 : decide (q < p) = true := decide_eq_true (by omega)
    go_enter Tryz.func7, Tryz.ntmps7
    go_wp2_with (first
      | (go_at_call 9; go_must (refine (AW _ (hG.kept (K2 _ _))).mono ?_); rintro e w1 ⟨rfl, H1⟩; have G1 := (hG.kept (K2 _ _)).kept H1; have pc0 := cell_kept2 H1 0 _ rfl; have pc1 := cell_kept2 H1 1 _ rfl; have pc2 := cell_kept2 H1 2 _ rfl; have pc3 := cell_kept2 H1 3 _ rfl; have pc4 := cell_kept2 H1 4 _ rfl; have pc5 := cell_kept2 H1 5 _ rfl; have pc6 := cell_kept2 H1 6 _ rfl; have pz0 := cell_kept H1 0 _ rfl; have pz1 := cell_kept H1 1 _ rfl; have pz2 := cell_kept H1 2 _ rfl; have pz3 := cell_kept H1 3 _ rfl; have pz4 := cell_kept H1 4 _ rfl; have pz5 := cell_kept H1 5 _ rfl; have pz6 := cell_kept H1 6 _ rfl; have pz7 := cell_kept H1 7 _ rfl; have pz8 := cell_kept H1 8 _ rfl; have pz9 := cell_kept H1 9 _ rfl; simp only [World.size_alloc] at pz0 pz1 pz2 pz3 pz4 pz5 pz6 pz7 pz8 pz9)
      | (go_at_call 10; with_reducible refine (N1 _ G1).mono ?_; rintro e w2 ⟨rfl, hg2⟩; have H2 := grown_more H1 hg2 (by simp); have G2 := G1.kept hg2; have qc0 := cell_kept2 H2 0 _ rfl; have qc1 := cell_kept2 H2 1 _ rfl; have qc2 := cell_kept2 H2 2 _ rfl; have qc3 := cell_kept2 H2 3 _ rfl; have qc4 := cell_kept2 H2 4 _ rfl; have qc5 := cell_kept2 H2 5 _ rfl; have qc6 := cell_kept2 H2 6 _ rfl; have qz0 := cell_kept H2 0 _ rfl; have qz1 := cell_kept H2 1 _ rfl; have qz2 := cell_kept H2 2 _ rfl; have qz3 := cell_kept H2 3 _ rfl; have qz4 := cell_kept H2 4 _ rfl; have qz5 := cell_kept H2 5 _ rfl; have qz6 := cell_kept H2 6 _ rfl; have qz7 := cell_kept H2 7 _ rfl; have qz8 := cell_kept H2 8 _ rfl; have qz9 := cell_kept H2 9 _ rfl; simp only [World.size_alloc] at qz0 qz1 qz2 qz3 qz4 qz5 qz6 qz7 qz8 qz9)
      | (go_at_call 10; with_reducible refine (N2 _ G2).mono ?_; rintro e w3 ⟨rfl, hg3⟩; have H3 := grown_more H2 hg3 (by simp); have G3 := G2.kept hg3))
    go_ret
    exact ⟨rfl, grown_more (K2 _ _) H3 (by simp)⟩

set_option maxRecDepth 100000 in
set_option maxHeartbeats 3200000 in
theorem rises_b2 (c : Cro.C) (z : Zon.Z) (p q x y e u : Int) (hpq : (p = x ∧ q = y ∧ x ≤ y) ∨ (p = y ∧ q = x ∧ x < y)) (h1 : e ≠ 0) (h2 : e ≠ 60) (h4 : u ≠ 0)
    (N1 : ∀ w, Gd w → Calls Tryz.prog 10 #[crv c, zon z, .int .i64 x] w fun r w' => r = .returned (.tuple #[.int .i64 0, .int .i64 e]) ∧ w.grownBy w' none)
    (N2 : ∀ w, Gd w → Calls Tryz.prog 10 #[crv c, zon z, .int .i64 y] w fun r w' => r = .returned (.tuple #[.int .i64 u, .int .i64 0]) ∧ w.grownBy w' none) (w : World) (hG : Gd w) :
    Calls Tryz.prog 7 #[crv c, zon z, .int .i64 p, .int .i64 q] w fun r w' => r = .returned (.bool true) ∧ w.grownBy w' none := by
  have hnot : ∀ (x : Bool) (w : World), (Op.unary .not (.bool x)).run Tryz.prog w = .ok (.bool (!x)) w := fun _ _ => rfl
  have AW := awake_any
  have K2 := fun o1 o2 => grown_alloc (World.grownBy_alloc w o1 none) o2
  have q1 : (e != 0) = true := by simpa using h1
  have q2 : (e != 60) = true := by simpa using h2
  have q3 : (u == 0) = false := by simpa using h4
  have q4 : (e == 0) = false := by simpa using h1
  rcases hpq with ⟨rfl, rfl, hxy⟩ | ⟨rfl, rfl, hxy⟩
  · have z1 : decide (q < p) = false := decide_eq_false (by omega)
    go_enter Tryz.func7, Tryz.ntmps7
    go_wp2_with (first
      | (go_at_call 9; go_must (refine (AW _ (hG.kept (K2 _ _))).mono ?_); rintro e w1 ⟨rfl, H1⟩; have G1 := (hG.kept (K2 _ _)).kept H1; have pc0 := cell_kept2 H1 0 _ rfl; have pc1 := cell_kept2 H1 1 _ rfl; have pc2 := cell_kept2 H1 2 _ rfl; have pc3 := cell_kept2 H1 3 _ rfl; have pc4 := cell_kept2 H1 4 _ rfl; have pc5 := cell_kept2 H1 5 _ rfl; have pc6 := cell_kept2 H1 6 _ rfl; have pz0 := cell_kept H1 0 _ rfl; have pz1 := cell_kept H1 1 _ rfl; have pz2 := cell_kept H1 2 _ rfl; have pz3 := cell_kept H1 3 _ rfl; have pz4 := cell_kept H1 4 _ rfl; have pz5 := cell_kept H1 5 _ rfl; have pz6 := cell_kept H1 6 _ rfl; have pz7 := cell_kept H1 7 _ rfl; have pz8 := cell_kept H1 8 _ rfl; have pz9 := cell_kept H1 9 _ rfl; simp only [World.size_alloc] at pz0 pz1 pz2 pz3 pz4 pz5 pz6 pz7 pz8 pz9)
      | (go_at_call 10; with_reducible refine (N1 _ G1).mono ?_; rintro e w2 ⟨rfl, hg2⟩; have H2 := grown_more H1 hg2 (by simp); have G2 := G1.kept hg2; have qc0 := cell_kept2 H2 0 _ rfl; have qc1 := cell_kept2 H2 1 _ rfl; have qc2 := cell_kept2 H2 2 _ rfl; have qc3 := cell_kept2 H2 3 _ rfl; have qc4 := cell_kept2 H2 4 _ rfl; have qc5 := cell_kept2 H2 5 _ rfl; have qc6 := cell_kept2 H2 6 _ rfl; have qz0 := cell_kept H2 0 _ rfl; have qz1 := cell_kept H2 1 _ rfl; have qz2 := cell_kept H2 2 _ rfl; have qz3 := cell_kept H2 3 _ rfl; have qz4 := cell_kept H2 4 _ rfl; have qz5 := cell_kept H2 5 _ rfl; have qz6 := cell_kept H2 6 _ rfl; have qz7 := cell_kept H2 7 _ rfl; have qz8 := cell_kept H2 8 _ rfl; have qz9 := cell_kept H2 9 _ rfl; simp only [World.size_alloc] at qz0 qz1 qz2 qz3 qz4 qz5 qz6 qz7 qz8 qz9)
      | (go_at_call 10; with_reducible refine (N2 _ G2).mono ?_; rintro e w3 ⟨rfl, hg3⟩; have H3 := grown_more H2 hg3 (by simp); have G3 := G2.kept hg3))
    go_ret
    exact ⟨rfl, grown_more (K2 _ _) H3 (by simp)⟩
  · have z1 : decide (q < p) = true := decide_eq_true (by omega)
    go_enter Tryz.func7, Tryz.ntmps7
    go_wp2_with (first
      | (go_at_call 9; go_must (refine (AW _ (hG.kept (K2 _ _))).mono ?_); rintro e w1 ⟨rfl, H1⟩; have G1 := (hG.kept (K2 _ _)).kept H1; have pc0 := cell_kept2 H1 0 _ rfl; have pc1 := cell_kept2 H1 1 _ rfl; have pc2 := cell_kept2 H1 2 _ rfl; have pc3 := cell_kept2 H1 3 _ rfl; have pc4 := cell_kept2 H1 4 _ rfl; have pc5 := cell_kept2 H1 5 _ rfl; have pc6 := cell_kept2 H1 6 _ rfl; have pz0 := cell_kept H1 0 _ rfl; have pz1 := cell_kept H1 1 _ rfl; have pz2 := cell_kept H1 2 _ rfl; have pz3 := cell_kept H1 3 _ rfl; have pz4 := cell_kept H1 4 _ rfl; have pz5 := cell_kept H1 5 _ rfl; have pz6 := cell_kept H1 6 _ rfl; have pz7 := cell_kept H1 7 _ rfl; have pz8 := cell_kept H1 8 _ rfl; have pz9 := cell_kept H1 9 _ rfl; simp only [World.size_alloc] at pz0 pz1 pz2 pz3 pz4 pz5 pz6 pz7 pz8 pz9)
      | (go_at_call 10; with_reducible refine (N1 _ G1).mono ?_; rintro e w2 ⟨rfl, hg2⟩; have H2 := grown_more H1 hg2 (by simp); have G2 := G1.kept hg2; have qc0 := cell_kept2 H2 0 _ rfl; have qc1 := cell_kept2 H2 1 _ rfl; have qc2 := cell_kept2 H2 2 _ rfl; have qc3 := cell_kept2 H2 3 _ rfl; have qc4 := cell_kept2 H2 4 _ rfl; have qc5 := cell_kept2 H2 5 _ rfl; have qc6 := cell_kept2 H2 6 _ rfl; have qz0 := cell_kept H2 0 _ rfl; have qz1 := cell_kept H2 1 _ rfl; have qz2 := cell_kept H2 2 _ rfl; have qz3 := cell_kept H2 3 _ rfl; have qz4 := cell_kept H2 4 _ rfl; have qz5 := cell_kept H2 5 _ rfl; have qz6 := cell_kept H2 6 _ rfl; have qz7 := cell_kept H2 7 _ rfl; have qz8 := cell_kept H2 8 _ rfl; have qz9 := cell_kept H2 9 _ rfl; simp only [World.size_alloc] at qz0 qz1 qz2 qz3 qz4 qz5 qz6 qz7 qz8 qz9)
      | (go_at_call 10; with_reducible refine (N2 _ G2).mono ?_; rintro e w3 ⟨rfl, hg3⟩; have H3 := grown_more H2 hg3 (by simp); have G3 := G2.kept hg3))
    go_ret
    exact ⟨rfl, grown_more (K2 _ _) H3 (by simp)⟩

set_option maxRecDepth 100000 in
set_option maxHeartbeats 3200000 in
theorem rises_c1 (c : Cro.C) (z : Zon.Z) (p q x y f : Int) (hpq : (p = x ∧ q = y ∧ x ≤ y) ∨ (p = y ∧ q = x ∧ x < y)) (h2 : f ≠ 0) (h3 : f ≠ 60)
    (N1 : ∀ w, Gd w → Calls Tryz.prog 10 #[crv c, zon z, .int .i64 x] w fun r w' => r = .returned (.tuple #[.int .i64 0, .int .i64 0]) ∧ w.grownBy w' none)
    (N2 : ∀ w, Gd w → Calls Tryz.prog 10 #[crv c, zon z, .int .i64 y] w fun r w' => r = .returned (.tuple #[.int .i64 0, .int .i64 f]) ∧ w.grownBy w' none) (w : World) (hG : Gd w) :
    Calls Tryz.prog 7 #[crv c, zon z, .int .i64 p, .int .i64 q] w fun r w' => r = .returned (.bool true) ∧ w.grownBy w' none := by
  have hnot : ∀ (x : Bool) (w : World), (Op.unary .not (.bool x)).run Tryz.prog w = .ok (.bool (!x)) w := fun _ _ => rfl
  have AW := awake_any
  have K2 := fun o1 o2 => grown_alloc (World.grownBy_alloc w o1 none) o2
  have q1 : (f != 0) = true := by simpa using h2
  have q2 : (f != 60) = true := by simpa using h3
  rcases hpq with ⟨rfl, rfl, hxy⟩ | ⟨rfl, rfl, hxy⟩
  · have z1 : decide (q < p) = false := decide_eq_false (by omega)
    go_enter Tryz.func7, Tryz.ntmps7
    go_wp2_with (first
      | (go_at_call 9; go_must (refine (AW _ (hG.kept (K2 _ _))).mono ?_); rintro e w1 ⟨rfl, H1⟩; have G1 := (hG.kept (K2 _ _)).kept H1; have pc0 := cell_kept2 H1 0 _ rfl; have pc1 := cell_kept2 H1 1 _ rfl; have pc2 := cell_kept2 H1 2 _ rfl; have pc3 := cell_kept2 H1 3 _ rfl; have pc4 := cell_kept2 H1 4 _ rfl; have pc5 := cell_kept2 H1 5 _ rfl; have pc6 := cell_kept2 H1 6 _ rfl; have pz0 := cell_kept H1 0 _ rfl; have pz1 := cell_kept H1 1 _ rfl; have pz2 := cell_kept H1 2 _ rfl; have pz3 := cell_kept H1 3 _ rfl; have pz4 := cell_kept H1 4 _ rfl; have pz5 := cell_kept H1 5 _ rfl; have pz6 := cell_kept H1 6 _ rfl; have pz7 := cell_kept H1 7 _ rfl; have pz8 := cell_kept H1 8 _ rfl; have pz9 := cell_kept H1 9 _ rfl; simp only [World.size_alloc] at pz0 pz1 pz2 pz3 pz4 pz5 pz6 pz7 pz8 pz9)
      | (go_at_call 10; with_reducible refine (N1 _ G1).mono ?_; rintro e w2 ⟨rfl, hg2⟩; have H2 := grown_more H1 hg2 (by simp); have G2 := G1.kept hg2; have qc0 := cell_kept2 H2 0 _ rfl; have qc1 := cell_kept2 H2 1 _ rfl; have qc2 := cell_kept2 H2 2 _ rfl; have qc3 := cell_kept2 H2 3 _ rfl; have qc4 := cell_kept2 H2 4 _ rfl; have qc5 := cell_kept2 H2 5 _ rfl; have qc6 := cell_kept2 H2 6 _ rfl; have qz0 := cell_kept H2 0 _ rfl; have qz1 := cell_kept H2 1 _ rfl; have qz2 := cell_kept H2 2 _ rfl; have qz3 := cell_kept H2 3 _ rfl; have qz4 := cell_kept H2 4 _ rfl; have qz5 := cell_kept H2 5 _ rfl; have qz6 := cell_kept H2 6 _ rfl; have qz7 := cell_kept H2 7 _ rfl; have qz8 := cell_kept H2 8 _ rfl; have qz9 := cell_kept H2 9 _ rfl; simp only [World.size_alloc] at qz0 qz1 qz2 qz3 qz4 qz5 qz6 qz7 qz8 qz9)
      | (go_at_call 10; with_reducible refine (N2 _ G2).mono ?_; rintro e w3 ⟨rfl, hg3⟩; have H3 := grown_more H2 hg3 (by simp); have G3 := G2.kept hg3))
    go_ret
    exact ⟨rfl, grown_more (K2 _ _) H3 (by simp)⟩
  · have z1 : decide (q < p) = true := decide_eq_true (by omega)
    go_enter Tryz.func7, Tryz.ntmps7
    go_wp2_with (first
      | (go_at_call 9; go_must (refine (AW _ (hG.kept (K2 _ _))).mono ?_); rintro e w1 ⟨rfl, H1⟩; have G1 := (hG.kept (K2 _ _)).kept H1; have pc0 := cell_kept2 H1 0 _ rfl; have pc1 := cell_kept2 H1 1 _ rfl; have pc2 := cell_kept2 H1 2 _ rfl; have pc3 := cell_kept2 H1 3 _ rfl; have pc4 := cell_kept2 H1 4 _ rfl; have pc5 := cell_kept2 H1 5 _ rfl; have pc6 := cell_kept2 H1 6 _ rfl; have pz0 := cell_kept H1 0 _ rfl; have pz1 := cell_kept H1 1 _ rfl; have pz2 := cell_kept H1 2 _ rfl; have pz3 := cell_kept H1 3 _ rfl; have pz4 := cell_kept H1 4 _ rfl; have pz5 := cell_kept H1 5 _ rfl; have pz6 := cell_kept H1 6 _ rfl; have pz7 := cell_kept H1 7 _ rfl; have pz8 := cell_kept H1 8 _ rfl; have pz9 := cell_kept H1 9 _ rfl; simp only [World.size_alloc] at pz0 pz1 pz2 pz3 pz4 pz5 pz6 pz7 pz8 pz9)
      | (go_at_call 10; with_reducible refine (N1 _ G1).mono ?_; rintro e w2 ⟨rfl, hg2⟩; have H2 := grown_more H1 hg2 (by simp); have G2 := G1.kept hg2; have qc0 := cell_kept2 H2 0 _ rfl; have qc1 := cell_kept2 H2 1 _ rfl; have qc2 := cell_kept2 H2 2 _ rfl; have qc3 := cell_kept2 H2 3 _ rfl; have qc4 := cell_kept2 H2 4 _ rfl; have qc5 := cell_kept2 H2 5 _ rfl; have qc6 := cell_kept2 H2 6 _ rfl; have qz0 := cell_kept H2 0 _ rfl; have qz1 := cell_kept H2 1 _ rfl; have qz2 := cell_kept H2 2 _ rfl; have qz3 := cell_kept H2 3 _ rfl; have qz4 := cell_kept H2 4 _ rfl; have qz5 := cell_kept H2 5 _ rfl; have qz6 := cell_kept H2 6 _ rfl; have qz7 := cell_kept H2 7 _ rfl; have qz8 := cell_kept H2 8 _ rfl; have qz9 := cell_kept H2 9 _ rfl; simp only [World.size_alloc] at qz0 qz1 qz2 qz3 qz4 qz5 qz6 qz7 qz8 qz9)
      | (go_at_call 10; with_reducible refine (N2 _ G2).mono ?_; rintro e w3 ⟨rfl, hg3⟩; have H3 := grown_more H2 hg3 (by simp); have G3 := G2.kept hg3))
    go_ret
    exact ⟨rfl, grown_more (K2 _ _) H3 (by simp)⟩

set_option maxRecDepth 100000 in
set_option maxHeartbeats 3200000 in
theorem rises_c2 (c : Cro.C) (z : Zon.Z) (p q x y t f : Int) (hpq : (p = x ∧ q = y ∧ x ≤ y) ∨ (p = y ∧ q = x ∧ x < y)) (h2 : f ≠ 0) (h3 : f ≠ 60) (h5 : t ≠ 0)
    (N1 : ∀ w, Gd w → Calls Tryz.prog 10 #[crv c, zon z, .int .i64 x] w fun r w' => r = .returned (.tuple #[.int .i64 t, .int .i64 0]) ∧ w.grownBy w' none)
    (N2 : ∀ w, Gd w → Calls Tryz.prog 10 #[crv c, zon z, .int .i64 y] w fun r w' => r = .returned (.tuple #[.int .i64 0, .int .i64 f]) ∧ w.grownBy w' none) (w : World) (hG : Gd w) :
    Calls Tryz.prog 7 #[crv c, zon z, .int .i64 p, .int .i64 q] w fun r w' => r = .returned (.bool true) ∧ w.grownBy w' none := by
  have hnot : ∀ (x : Bool) (w : World), (Op.unary .not (.bool x)).run Tryz.prog w = .ok (.bool (!x)) w := fun _ _ => rfl
  have AW := awake_any
  have K2 := fun o1 o2 => grown_alloc (World.grownBy_alloc w o1 none) o2
  have q1 : (f != 0) = true := by simpa using h2
  have q2 : (f != 60) = true := by simpa using h3
  have q3 : (t == 0) = false := by simpa using h5
  rcases hpq with ⟨rfl, rfl, hxy⟩ | ⟨rfl, rfl, hxy⟩
  · have z1 : decide (q < p) = false := decide_eq_false (by omega)
    go_enter Tryz.func7, Tryz.ntmps7
    go_wp2_with (first
      | (go_at_call 9; go_must (refine (AW _ (hG.kept (K2 _ _))).mono ?_); rintro e w1 ⟨rfl, H1⟩; have G1 := (hG.kept (K2 _ _)).kept H1; have pc0 := cell_kept2 H1 0 _ rfl; have pc1 := cell_kept2 H1 1 _ rfl; have pc2 := cell_kept2 H1 2 _ rfl; have pc3 := cell_kept2 H1 3 _ rfl; have pc4 := cell_kept2 H1 4 _ rfl; have pc5 := cell_kept2 H1 5 _ rfl; have pc6 := cell_kept2 H1 6 _ rfl; have pz0 := cell_kept H1 0 _ rfl; have pz1 := cell_kept H1 1 _ rfl; have pz2 := cell_kept H1 2 _ rfl; have pz3 := cell_kept H1 3 _ rfl; have pz4 := cell_kept H1 4 _ rfl; have pz5 := cell_kept H1 5 _ rfl; have pz6 := cell_kept H1 6 _ rfl; have pz7 := cell_kept H1 7 _ rfl; have pz8 := cell_kept H1 8 _ rfl; have pz9 := cell_kept H1 9 _ rfl; simp only [World.size_alloc] at pz0 pz1 pz2 pz3 pz4 pz5 pz6 pz7 pz8 pz9)
      | (go_at_call 10; with_reducible refine (N1 _ G1).mono ?_; rintro e w2 ⟨rfl, hg2⟩; have H2 := grown_more H1 hg2 (by simp); have G2 := G1.kept hg2; have qc0 := cell_kept2 H2 0 _ rfl; have qc1 := cell_kept2 H2 1 _ rfl; have qc2 := cell_kept2 H2 2 _ rfl; have qc3 := cell_kept2 H2 3 _ rfl; have qc4 := cell_kept2 H2 4 _ rfl; have qc5 := cell_kept2 H2 5 _ rfl; have qc6 := cell_kept2 H2 6 _ rfl; have qz0 := cell_kept H2 0 _ rfl; have qz1 := cell_kept H2 1 _ rfl; have qz2 := cell_kept H2 2 _ rfl; have qz3 := cell_kept H2 3 _ rfl; have qz4 := cell_kept H2 4 _ rfl; have qz5 := cell_kept H2 5 _ rfl; have qz6 := cell_kept H2 6 _ rfl; have qz7 := cell_kept H2 7 _ rfl; have qz8 := cell_kept H2 8 _ rfl; have qz9 := cell_kept H2 9 _ rfl; simp only [World.size_alloc] at qz0 qz1 qz2 qz3 qz4 qz5 qz6 qz7 qz8 qz9)
      | (go_at_call 10; with_reducible refine (N2 _ G2).mono ?_; rintro e w3 ⟨rfl, hg3⟩; have H3 := grown_more H2 hg3 (by simp); have G3 := G2.kept hg3))
    go_ret
    exact ⟨rfl, grown_more (K2 _ _) H3 (by simp)⟩
  · have z1 : decide (q < p) = true := decide_eq_true (by omega)
    go_enter Tryz.func7, Tryz.ntmps7
    go_wp2_with (first
      | (go_at_call 9; go_must (refine (AW _ (hG.kept (K2 _ _))).mono ?_); rintro e w1 ⟨rfl, H1⟩; have G1 := (hG.kept (K2 _ _)).kept H1; have pc0 := cell_kept2 H1 0 _ rfl; have pc1 := cell_kept2 H1 1 _ rfl; have pc2 := cell_kept2 H1 2 _ rfl; have pc3 := cell_kept2 H1 3 _ rfl; have pc4 := cell_kept2 H1 4 _ rfl; have pc5 := cell_kept2 H1 5 _ rfl; have pc6 := cell_kept2 H1 6 _ rfl; have pz0 := cell_kept H1 0 _ rfl; have pz1 := cell_kept H1 1 _ rfl; have pz2 := cell_kept H1 2 _ rfl; have pz3 := cell_kept H1 3 _ rfl; have pz4 := cell_kept H1 4 _ rfl; have pz5 := cell_kept H1 5 _ rfl; have pz6 := cell_kept H1 6 _ rfl; have pz7 := cell_kept H1 7 _ rfl; have pz8 := cell_kept H1 8 _ rfl; have pz9 := cell_kept H1 9 _ rfl; simp only [World.size_alloc] at pz0 pz1 pz2 pz3 pz4 pz5 pz6 pz7 pz8 pz9)
      | (go_at_call 10; with_reducible refine (N1 _ G1).mono ?_; rintro e w2 ⟨rfl, hg2⟩; have H2 := grown_more H1 hg2 (by simp); have G2 := G1.kept hg2; have qc0 := cell_kept2 H2 0 _ rfl; have qc1 := cell_kept2 H2 1 _ rfl; have qc2 := cell_kept2 H2 2 _ rfl; have qc3 := cell_kept2 H2 3 _ rfl; have qc4 := cell_kept2 H2 4 _ rfl; have qc5 := cell_kept2 H2 5 _ rfl; have qc6 := cell_kept2 H2 6 _ rfl; have qz0 := cell_kept H2 0 _ rfl; have qz1 := cell_kept H2 1 _ rfl; have qz2 := cell_kept H2 2 _ rfl; have qz3 := cell_kept H2 3 _ rfl; have qz4 := cell_kept H2 4 _ rfl; have qz5 := cell_kept H2 5 _ rfl; have qz6 := cell_kept H2 6 _ rfl; have qz7 := cell_kept H2 7 _ rfl; have qz8 := cell_kept H2 8 _ rfl; have qz9 := cell_kept H2 9 _ rfl; simp only [World.size_alloc] at qz0 qz1 qz2 qz3 qz4 qz5 qz6 qz7 qz8 qz9)
      | (go_at_call 10; with_reducible refine (N2 _ G2).mono ?_; rintro e w3 ⟨rfl, hg3⟩; have H3 := grown_more H2 hg3 (by simp); have G3 := G2.kept hg3))
    go_ret
    exact ⟨rfl, grown_more (K2 _ _) H3 (by simp)⟩

set_option maxRecDepth 100000 in
set_option maxHeartbeats 3200000 in
theorem rises_c3 (c : Cro.C) (z : Zon.Z) (p q x y f : Int) (hpq : (p = x ∧ q = y ∧ x ≤ y) ∨ (p = y ∧ q = x ∧ x < y)) (h2 : f ≠ 0) (h3 : f ≠ 60)
    (N1 : ∀ w, Gd w → Calls Tryz.prog 10 #[crv c, zon z, .int .i64 x] w fun r w' => r = .returned (.tuple #[.int .i64 0, .int .i64 60]) ∧ w.grownBy w' none)
    (N2 : ∀ w, Gd w → Calls Tryz.prog 10 #[crv c, zon z, .int .i64 y] w fun r w' => r = .returned (.tuple #[.int .i64 0, .int .i64 f]) ∧ w.grownBy w' none) (w : World) (hG : Gd w) :
    Calls Tryz.prog 7 #[crv c, zon z, .int .i64 p, .int .i64 q] w fun r w' => r = .returned (.bool true) ∧ w.grownBy w' none := by
  have hnot : ∀ (x : Bool) (w : World), (Op.unary .not (.bool x)).run Tryz.prog w = .ok (.bool (!x)) w := fun _ _ => rfl
  have AW := awake_any
  have K2 := fun o1 o2 => grown_alloc (World.grownBy_alloc w o1 none) o2
  have q1 : (f != 0) = true := by simpa using h2
  have q2 : (f != 60) = true := by simpa using h3
  rcases hpq with ⟨rfl, rfl, hxy⟩ | ⟨rfl, rfl, hxy⟩
  · have z1 : decide (q < p) = false := decide_eq_false (by omega)
    go_enter Tryz.func7, Tryz.ntmps7
    go_wp2_with (first
      | (go_at_call 9; go_must (refine (AW _ (hG.kept (K2 _ _))).mono ?_); rintro e w1 ⟨rfl, H1⟩; have G1 := (hG.kept (K2 _ _)).kept H1; have pc0 := cell_kept2 H1 0 _ rfl; have pc1 := cell_kept2 H1 1 _ rfl; have pc2 := cell_kept2 H1 2 _ rfl; have pc3 := cell_kept2 H1 3 _ rfl; have pc4 := cell_kept2 H1 4 _ rfl; have pc5 := cell_kept2 H1 5 _ rfl; have pc6 := cell_kept2 H1 6 _ rfl; have pz0 := cell_kept H1 0 _ rfl; have pz1 := cell_kept H1 1 _ rfl; have pz2 := cell_kept H1 2 _ rfl; have pz3 := cell_kept H1 3 _ rfl; have pz4 := cell_kept H1 4 _ rfl; have pz5 := cell_kept H1 5 _ rfl; have pz6 := cell_kept H1 6 _ rfl; have pz7 := cell_kept H1 7 _ rfl; have pz8 := cell_kept H1 8 _ rfl; have pz9 := cell_kept H1 9 _ rfl; simp only [World.size_alloc] at pz0 pz1 pz2 pz3 pz4 pz5 pz6 pz7 pz8 pz9)
      | (go_at_call 10; with_reducible refine (N1 _ G1).mono ?_; rintro e w2 ⟨rfl, hg2⟩; have H2 := grown_more H1 hg2 (by simp); have G2 := G1.kept hg2; have qc0 := cell_kept2 H2 0 _ rfl; have qc1 := cell_kept2 H2 1 _ rfl; have qc2 := cell_kept2 H2 2 _ rfl; have qc3 := cell_kept2 H2 3 _ rfl; have qc4 := cell_kept2 H2 4 _ rfl; have qc5 := cell_kept2 H2 5 _ rfl; have qc6 := cell_kept2 H2 6 _ rfl; have qz0 := cell_kept H2 0 _ rfl; have qz1 := cell_kept H2 1 _ rfl; have qz2 := cell_kept H2 2 _ rfl; have qz3 := cell_kept H2 3 _ rfl; have qz4 := cell_kept H2 4 _ rfl; have qz5 := cell_kept H2 5 _ rfl; have qz6 := cell_kept H2 6 _ rfl; have qz7 := cell_kept H2 7 _ rfl; have qz8 := cell_kept H2 8 _ rfl; have qz9 := cell_kept H2 9 _ rfl; simp only [World.size_alloc] at qz0 qz1 qz2 qz3 qz4 qz5 qz6 qz7 qz8 qz9)
      | (go_at_call 10; with_reducible refine (N2 _ G2).mono ?_; rintro e w3 ⟨rfl, hg3⟩; have H3 := grown_more H2 hg3 (by simp); have G3 := G2.kept hg3))
    go_ret
    exact ⟨rfl, grown_more (K2 _ _) H3 (by simp)⟩
  · have z1 : decide (q < p) = true := decide_eq_true (by omega)
    go_enter Tryz.func7, Tryz.ntmps7
    go_wp2_with (first
      | (go_at_call 9; go_must (refine (AW _ (hG.kept (K2 _ _))).mono ?_); rintro e w1 ⟨rfl, H1⟩; have G1 := (hG.kept (K2 _ _)).kept H1; have pc0 := cell_kept2 H1 0 _ rfl; have pc1 := cell_kept2 H1 1 _ rfl; have pc2 := cell_kept2 H1 2 _ rfl; have pc3 := cell_kept2 H1 3 _ rfl; have pc4 := cell_kept2 H1 4 _ rfl; have pc5 := cell_kept2 H1 5 _ rfl; have pc6 := cell_kept2 H1 6 _ rfl; have pz0 := cell_kept H1 0 _ rfl; have pz1 := cell_kept H1 1 _ rfl; have pz2 := cell_kept H1 2 _ rfl; have pz3 := cell_kept H1 3 _ rfl; have pz4 := cell_kept H1 4 _ rfl; have pz5 := cell_kept H1 5 _ rfl; have pz6 := cell_kept H1 6 _ rfl; have pz7 := cell_kept H1 7 _ rfl; have pz8 := cell_kept H1 8 _ rfl; have pz9 := cell_kept H1 9 _ rfl; simp only [World.size_alloc] at pz0 pz1 pz2 pz3 pz4 pz5 pz6 pz7 pz8 pz9)
      | (go_at_call 10; with_reducible refine (N1 _ G1).mono ?_; rintro e w2 ⟨rfl, hg2⟩; have H2 := grown_more H1 hg2 (by simp); have G2 := G1.kept hg2; have qc0 := cell_kept2 H2 0 _ rfl; have qc1 := cell_kept2 H2 1 _ rfl; have qc2 := cell_kept2 H2 2 _ rfl; have qc3 := cell_kept2 H2 3 _ rfl; have qc4 := cell_kept2 H2 4 _ rfl; have qc5 := cell_kept2 H2 5 _ rfl; have qc6 := cell_kept2 H2 6 _ rfl; have qz0 := cell_kept H2 0 _ rfl; have qz1 := cell_kept H2 1 _ rfl; have qz2 := cell_kept H2 2 _ rfl; have qz3 := cell_kept H2 3 _ rfl; have qz4 := cell_kept H2 4 _ rfl; have qz5 := cell_kept H2 5 _ rfl; have qz6 := cell_kept H2 6 _ rfl; have qz7 := cell_kept H2 7 _ rfl; have qz8 := cell_kept H2 8 _ rfl; have qz9 := cell_kept H2 9 _ rfl; simp only [World.size_alloc] at qz0 qz1 qz2 qz3 qz4 qz5 qz6 qz7 qz8 qz9)
      | (go_at_call 10; with_reducible refine (N2 _ G2).mono ?_; rintro e w3 ⟨rfl, hg3⟩; have H3 := grown_more H2 hg3 (by simp); have G3 := G2.kept hg3))
    go_ret
    exact ⟨rfl, grown_more (K2 _ _) H3 (by simp)⟩

set_option maxRecDepth 100000 in
set_option maxHeartbeats 3200000 in
theorem rises_d (c : Cro.C) (z : Zon.Z) (p q x y t u : Int) (hpq : (p = x ∧ q = y ∧ x ≤ y) ∨ (p = y ∧ q = x ∧ x < y)) 
    (N1 : ∀ w, Gd w → Calls Tryz.prog 10 #[crv c, zon z, .int .i64 x] w fun r w' => r = .returned (.tuple #[.int .i64 t, .int .i64 60]) ∧ w.grownBy w' none)
    (N2 : ∀ w, Gd w → Calls Tryz.prog 10 #[crv c, zon z, .int .i64 y] w fun r w' => r = .returned (.tuple #[.int .i64 u, .int .i64 60]) ∧ w.grownBy w' none) (w : World) (hG : Gd w) :
    Calls Tryz.prog 7 #[crv c, zon z, .int .i64 p, .int .i64 q] w fun r w' => r = .returned (.bool true) ∧ w.grownBy w' none := by
  have hnot : ∀ (x : Bool) (w : World), (Op.unary .not (.bool x)).run Tryz.prog w = .ok (.bool (!x)) w := fun _ _ => rfl
  have AW := awake_any
  have K2 := fun o1 o2 => grown_alloc (World.grownBy_alloc w o1 none) o2
  rcases hpq with ⟨rfl, rfl, hxy⟩ | ⟨rfl, rfl, hxy⟩
  · have z1 : decide (q < p) = false := decide_eq_false (by omega)
    go_enter Tryz.func7, Tryz.ntmps7
    go_wp2_with (first
      | (go_at_call 9; go_must (refine (AW _ (hG.kept (K2 _ _))).mono ?_); rintro e w1 ⟨rfl, H1⟩; have G1 := (hG.kept (K2 _ _)).kept H1; have pc0 := cell_kept2 H1 0 _ rfl; have pc1 := cell_kept2 H1 1 _ rfl; have pc2 := cell_kept2 H1 2 _ rfl; have pc3 := cell_kept2 H1 3 _ rfl; have pc4 := cell_kept2 H1 4 _ rfl; have pc5 := cell_kept2 H1 5 _ rfl; have pc6 := cell_kept2 H1 6 _ rfl; have pz0 := cell_kept H1 0 _ rfl; have pz1 := cell_kept H1 1 _ rfl; have pz2 := cell_kept H1 2 _ rfl; have pz3 := cell_kept H1 3 _ rfl; have pz4 := cell_kept H1 4 _ rfl; have pz5 := cell_kept H1 5 _ rfl; have pz6 := cell_kept H1 6 _ rfl; have pz7 := cell_kept H1 7 _ rfl; have pz8 := cell_kept H1 8 _ rfl; have pz9 := cell_kept H1 9 _ rfl; simp only [World.size_alloc] at pz0 pz1 pz2 pz3 pz4 pz5 pz6 pz7 pz8 pz9)
      | (go_at_call 10; with_reducible refine (N1 _ G1).mono ?_; rintro e w2 ⟨rfl, hg2⟩; have H2 := grown_more H1 hg2 (by simp); have G2 := G1.kept hg2; have qc0 := cell_kept2 H2 0 _ rfl; have qc1 := cell_kept2 H2 1 _ rfl; have qc2 := cell_kept2 H2 2 _ rfl; have qc3 := cell_kept2 H2 3 _ rfl; have qc4 := cell_kept2 H2 4 _ rfl; have qc5 := cell_kept2 H2 5 _ rfl; have qc6 := cell_kept2 H2 6 _ rfl; have qz0 := cell_kept H2 0 _ rfl; have qz1 := cell_kept H2 1 _ rfl; have qz2 := cell_kept H2 2 _ rfl; have qz3 := cell_kept H2 3 _ rfl; have qz4 := cell_kept H2 4 _ rfl; have qz5 := cell_kept H2 5 _ rfl; have qz6 := cell_kept H2 6 _ rfl; have qz7 := cell_kept H2 7 _ rfl; have qz8 := cell_kept H2 8 _ rfl; have qz9 := cell_kept H2 9 _ rfl; simp only [World.size_alloc] at qz0 qz1 qz2 qz3 qz4 qz5 qz6 qz7 qz8 qz9)
      | (go_at_call 10; with_reducible refine (N2 _ G2).mono ?_; rintro e w3 ⟨rfl, hg3⟩; have H3 := grown_more H2 hg3 (by simp); have G3 := G2.kept hg3))
    go_ret
    exact ⟨rfl, grown_more (K2 _ _) H3 (by simp)⟩
  · have z1 : decide (q < p) = true := decide_eq_true (by omega)
    go_enter Tryz.func7, Tryz.ntmps7
    go_wp2_with (first
      | (go_at_call 9; go_must (refine (AW _ (hG.kept (K2 _ _))).mono ?_); rintro e w1 ⟨rfl, H1⟩; have G1 := (hG.kept (K2 _ _)).kept H1; have pc0 := cell_kept2 H1 0 _ rfl; have pc1 := cell_kept2 H1 1 _ rfl; have pc2 := cell_kept2 H1 2 _ rfl; have pc3 := cell_kept2 H1 3 _ rfl; have pc4 := cell_kept2 H1 4 _ rfl; have pc5 := cell_kept2 H1 5 _ rfl; have pc6 := cell_kept2 H1 6 _ rfl; have pz0 := cell_kept H1 0 _ rfl; have pz1 := cell_kept H1 1 _ rfl; have pz2 := cell_kept H1 2 _ rfl; have pz3 := cell_kept H1 3 _ rfl; have pz4 := cell_kept H1 4 _ rfl; have pz5 := cell_kept H1 5 _ rfl; have pz6 := cell_kept H1 6 _ rfl; have pz7 := cell_kept H1 7 _ rfl; have pz8 := cell_kept H1 8 _ rfl; have pz9 := cell_kept H1 9 _ rfl; simp only [World.size_alloc] at pz0 pz1 pz2 pz3 pz4 pz5 pz6 pz7 pz8 pz9)
      | (go_at_call 10; with_reducible refine (N1 _ G1).mono ?_; rintro e w2 ⟨rfl, hg2⟩; have H2 := grown_more H1 hg2 (by simp); have G2 := G1.kept hg2; have qc0 := cell_kept2 H2 0 _ rfl; have qc1 := cell_kept2 H2 1 _ rfl; have qc2 := cell_kept2 H2 2 _ rfl; have qc3 := cell_kept2 H2 3 _ rfl; have qc4 := cell_kept2 H2 4 _ rfl; have qc5 := cell_kept2 H2 5 _ rfl; have qc6 := cell_kept2 H2 6 _ rfl; have qz0 := cell_kept H2 0 _ rfl; have qz1 := cell_kept H2 1 _ rfl; have qz2 := cell_kept H2 2 _ rfl; have qz3 := cell_kept H2 3 _ rfl; have qz4 := cell_kept H2 4 _ rfl; have qz5 := cell_kept H2 5 _ rfl; have qz6 := cell_kept H2 6 _ rfl; have qz7 := cell_kept H2 7 _ rfl; have qz8 := cell_kept H2 8 _ rfl; have qz9 := cell_kept H2 9 _ rfl; simp only [World.size_alloc] at qz0 qz1 qz2 qz3 qz4 qz5 qz6 qz7 qz8 qz9)
      | (go_at_call 10; with_reducible refine (N2 _ G2).mono ?_; rintro e w3 ⟨rfl, hg3⟩; have H3 := grown_more H2 hg3 (by simp); have G3 := G2.kept hg3))
    go_ret
    exact ⟨rfl, grown_more (K2 _ _) H3 (by simp)⟩

set_option maxRecDepth 100000 in
set_option maxHeartbeats 3200000 in
theorem rises_g1 (c : Cro.C) (z : Zon.Z) (p q x y t : Int) (hpq : (p = x ∧ q = y ∧ x ≤ y) ∨ (p = y ∧ q = x ∧ x < y)) (ht1 : 0 ≤ t) (ht2 : t ≤ 226157759) (h4 : y < t)
    (N1 : ∀ w, Gd w → Calls Tryz.prog 10 #[crv c, zon z, .int .i64 x] w fun r w' => r = .returned (.tuple #[.int .i64 t, .int .i64 0]) ∧ w.grownBy w' none)
    (N2 : ∀ w, Gd w → Calls Tryz.prog 10 #[crv c, zon z, .int .i64 y] w fun r w' => r = .returned (.tuple #[.int .i64 t, .int .i64 0]) ∧ w.grownBy w' none) (N3 : ∀ w, Gd w → Calls Tryz.prog 10 #[crv c, zon z, .int .i64 (t - 1)] w fun r w' => r = .returned (.tuple #[.int .i64 t, .int .i64 0]) ∧ w.grownBy w' none) (w : World) (hG : Gd w) :
    Calls Tryz.prog 7 #[crv c, zon z, .int .i64 p, .int .i64 q] w fun r w' => r = .returned (.bool true) ∧ w.grownBy w' none := by
  have hnot : ∀ (x : Bool) (w : World), (Op.unary .not (.bool x)).run Tryz.prog w = .ok (.bool (!x)) w := fun _ _ => rfl
  have AW := awake_any
  have K2 := fun o1 o2 => grown_alloc (World.grownBy_alloc w o1 none) o2
  have q1 : decide (y < t) = true := decide_eq_true h4
  rcases hpq with ⟨rfl, rfl, hxy⟩ | ⟨rfl, rfl, hxy⟩
  · have z1 : decide (q < p) = false := decide_eq_false (by omega)
    go_enter Tryz.func7, Tryz.ntmps7
    go_wp2_with (first
      | (go_at_call 9; go_must (refine (AW _ (hG.kept (K2 _ _))).mono ?_); rintro e w1 ⟨rfl, H1⟩; have G1 := (hG.kept (K2 _ _)).kept H1; have pc0 := cell_kept2 H1 0 _ rfl; have pc1 := cell_kept2 H1 1 _ rfl; have pc2 := cell_kept2 H1 2 _ rfl; have pc3 := cell_kept2 H1 3 _ rfl; have pc4 := cell_kept2 H1 4 _ rfl; have pc5 := cell_kept2 H1 5 _ rfl; have pc6 := cell_kept2 H1 6 _ rfl; have pz0 := cell_kept H1 0 _ rfl; have pz1 := cell_kept H1 1 _ rfl; have pz2 := cell_kept H1 2 _ rfl; have pz3 := cell_kept H1 3 _ rfl; have pz4 := cell_kept H1 4 _ rfl; have pz5 := cell_kept H1 5 _ rfl; have pz6 := cell_kept H1 6 _ rfl; have pz7 := cell_kept H1 7 _ rfl; have pz8 := cell_kept H1 8 _ rfl; have pz9 := cell_kept H1 9 _ rfl; simp only [World.size_alloc] at pz0 pz1 pz2 pz3 pz4 pz5 pz6 pz7 pz8 pz9)
      | (go_at_call 10; with_reducible refine (N1 _ G1).mono ?_; rintro e w2 ⟨rfl, hg2⟩; have H2 := grown_more H1 hg2 (by simp); have G2 := G1.kept hg2; have qc0 := cell_kept2 H2 0 _ rfl; have qc1 := cell_kept2 H2 1 _ rfl; have qc2 := cell_kept2 H2 2 _ rfl; have qc3 := cell_kept2 H2 3 _ rfl; have qc4 := cell_kept2 H2 4 _ rfl; have qc5 := cell_kept2 H2 5 _ rfl; have qc6 := cell_kept2 H2 6 _ rfl; have qz0 := cell_kept H2 0 _ rfl; have qz1 := cell_kept H2 1 _ rfl; have qz2 := cell_kept H2 2 _ rfl; have qz3 := cell_kept H2 3 _ rfl; have qz4 := cell_kept H2 4 _ rfl; have qz5 := cell_kept H2 5 _ rfl; have qz6 := cell_kept H2 6 _ rfl; have qz7 := cell_kept H2 7 _ rfl; have qz8 := cell_kept H2 8 _ rfl; have qz9 := cell_kept H2 9 _ rfl; simp only [World.size_alloc] at qz0 qz1 qz2 qz3 qz4 qz5 qz6 qz7 qz8 qz9)
      | (go_at_call 10; with_reducible refine (N2 _ G2).mono ?_; rintro e w3 ⟨rfl, hg3⟩; have H3 := grown_more H2 hg3 (by simp); have G3 := G2.kept hg3; have rc0 := cell_kept2 H3 0 _ rfl; have rc1 := cell_kept2 H3 1 _ rfl; have rc2 := cell_kept2 H3 2 _ rfl; have rc3 := cell_kept2 H3 3 _ rfl; have rc4 := cell_kept2 H3 4 _ rfl; have rc5 := cell_kept2 H3 5 _ rfl; have rc6 := cell_kept2 H3 6 _ rfl; have rz0 := cell_kept H3 0 _ rfl; have rz1 := cell_kept H3 1 _ rfl; have rz2 := cell_kept H3 2 _ rfl; have rz3 := cell_kept H3 3 _ rfl; have rz4 := cell_kept H3 4 _ rfl; have rz5 := cell_kept H3 5 _ rfl; have rz6 := cell_kept H3 6 _ rfl; have rz7 := cell_kept H3 7 _ rfl; have rz8 := cell_kept H3 8 _ rfl; have rz9 := cell_kept H3 9 _ rfl; simp only [World.size_alloc] at rz0 rz1 rz2 rz3 rz4 rz5 rz6 rz7 rz8 rz9)
      | (go_at_call 10; with_reducible refine (N3 _ G3).mono ?_; rintro e w4 ⟨rfl, hg4⟩))
    go_ret
    exact ⟨rfl, grown_more (K2 _ _) (grown_more H3 hg4 (by simp)) (by simp)⟩
  · have z1 : decide (q < p) = true := decide_eq_true (by omega)
    go_enter Tryz.func7, Tryz.ntmps7
    go_wp2_with (first
      | (go_at_call 9; go_must (refine (AW _ (hG.kept (K2 _ _))).mono ?_); rintro e w1 ⟨rfl, H1⟩; have G1 := (hG.kept (K2 _ _)).kept H1; have pc0 := cell_kept2 H1 0 _ rfl; have pc1 := cell_kept2 H1 1 _ rfl; have pc2 := cell_kept2 H1 2 _ rfl; have pc3 := cell_kept2 H1 3 _ rfl; have pc4 := cell_kept2 H1 4 _ rfl; have pc5 := cell_kept2 H1 5 _ rfl; have pc6 := cell_kept2 H1 6 _ rfl; have pz0 := cell_kept H1 0 _ rfl; have pz1 := cell_kept H1 1 _ rfl; have pz2 := cell_kept H1 2 _ rfl; have pz3 := cell_kept H1 3 _ rfl; have pz4 := cell_kept H1 4 _ rfl; have pz5 := cell_kept H1 5 _ rfl; have pz6 := cell_kept H1 6 _ rfl; have pz7 := cell_kept H1 7 _ rfl; have pz8 := cell_kept H1 8 _ rfl; have pz9 := cell_kept H1 9 _ rfl; simp only [World.size_alloc] at pz0 pz1 pz2 pz3 pz4 pz5 pz6 pz7 pz8 pz9)
      | (go_at_call 10; with_reducible refine (N1 _ G1).mono ?_; rintro e w2 ⟨rfl, hg2⟩; have H2 := grown_more H1 hg2 (by simp); have G2 := G1.kept hg2; have qc0 := cell_kept2 H2 0 _ rfl; have qc1 := cell_kept2 H2 1 _ rfl; have qc2 := cell_kept2 H2 2 _ rfl; have qc3 := cell_kept2 H2 3 _ rfl; have qc4 := cell_kept2 H2 4 _ rfl; have qc5 := cell_kept2 H2 5 _ rfl; have qc6 := cell_kept2 H2 6 _ rfl; have qz0 := cell_kept H2 0 _ rfl; have qz1 := cell_kept H2 1 _ rfl; have qz2 := cell_kept H2 2 _ rfl; have qz3 := cell_kept H2 3 _ rfl; have qz4 := cell_kept H2 4 _ rfl; have qz5 := cell_kept H2 5 _ rfl; have qz6 := cell_kept H2 6 _ rfl; have qz7 := cell_kept H2 7 _ rfl; have qz8 := cell_kept H2 8 _ rfl; have qz9 := cell_kept H2 9 _ rfl; simp only [World.size_alloc] at qz0 qz1 qz2 qz3 qz4 qz5 qz6 qz7 qz8 qz9)
      | (go_at_call 10; with_reducible refine (N2 _ G2).mono ?_; rintro e w3 ⟨rfl, hg3⟩; have H3 := grown_more H2 hg3 (by simp); have G3 := G2.kept hg3; have rc0 := cell_kept2 H3 0 _ rfl; have rc1 := cell_kept2 H3 1 _ rfl; have rc2 := cell_kept2 H3 2 _ rfl; have rc3 := cell_kept2 H3 3 _ rfl; have rc4 := cell_kept2 H3 4 _ rfl; have rc5 := cell_kept2 H3 5 _ rfl; have rc6 := cell_kept2 H3 6 _ rfl; have rz0 := cell_kept H3 0 _ rfl; have rz1 := cell_kept H3 1 _ rfl; have rz2 := cell_kept H3 2 _ rfl; have rz3 := cell_kept H3 3 _ rfl; have rz4 := cell_kept H3 4 _ rfl; have rz5 := cell_kept H3 5 _ rfl; have rz6 := cell_kept H3 6 _ rfl; have rz7 := cell_kept H3 7 _ rfl; have rz8 := cell_kept H3 8 _ rfl; have rz9 := cell_kept H3 9 _ rfl; simp only [World.size_alloc] at rz0 rz1 rz2 rz3 rz4 rz5 rz6 rz7 rz8 rz9)
      | (go_at_call 10; with_reducible refine (N3 _ G3).mono ?_; rintro e w4 ⟨rfl, hg4⟩))
    go_ret
    exact ⟨rfl, grown_more (K2 _ _) (grown_more H3 hg4 (by simp)) (by simp)⟩

set_option maxRecDepth 100000 in
set_option maxHeartbeats 3200000 in
theorem rises_g2 (c : Cro.C) (z : Zon.Z) (p q x y t u : Int) (hpq : (p = x ∧ q = y ∧ x ≤ y) ∨ (p = y ∧ q = x ∧ x < y)) (ht1 : 0 ≤ t) (ht2 : t ≤ 226157759) (h3 : t ≤ u) (h4 : ¬ y < t)
    (N1 : ∀ w, Gd w → Calls Tryz.prog 10 #[crv c, zon z, .int .i64 x] w fun r w' => r = .returned (.tuple #[.int .i64 t, .int .i64 0]) ∧ w.grownBy w' none)
    (N2 : ∀ w, Gd w → Calls Tryz.prog 10 #[crv c, zon z, .int .i64 y] w fun r w' => r = .returned (.tuple #[.int .i64 u, .int .i64 0]) ∧ w.grownBy w' none) (N3 : ∀ w, Gd w → Calls Tryz.prog 10 #[crv c, zon z, .int .i64 (t - 1)] w fun r w' => r = .returned (.tuple #[.int .i64 t, .int .i64 0]) ∧ w.grownBy w' none) (w : World) (hG : Gd w) :
    Calls Tryz.prog 7 #[crv c, zon z, .int .i64 p, .int .i64 q] w fun r w' => r = .returned (.bool true) ∧ w.grownBy w' none := by
  have hnot : ∀ (x : Bool) (w : World), (Op.unary .not (.bool x)).run Tryz.prog w = .ok (.bool (!x)) w := fun _ _ => rfl
  have AW := awake_any
  have K2 := fun o1 o2 => grown_alloc (World.grownBy_alloc w o1 none) o2
  have q1 : decide (y < t) = false := decide_eq_false h4
  have q2 : decide (u < t) = false := decide_eq_false (by omega)
  rcases hpq with ⟨rfl, rfl, hxy⟩ | ⟨rfl, rfl, hxy⟩
  · have z1 : decide (q < p) = false := decide_eq_false (by omega)
    go_enter Tryz.func7, Tryz.ntmps7
    go_wp2_with (first
      | (go_at_call 9; go_must (refine (AW _ (hG.kept (K2 _ _))).mono ?_); rintro e w1 ⟨rfl, H1⟩; have G1 := (hG.kept (K2 _ _)).kept H1; have pc0 := cell_kept2 H1 0 _ rfl; have pc1 := cell_kept2 H1 1 _ rfl; have pc2 := cell_kept2 H1 2 _ rfl; have pc3 := cell_kept2 H1 3 _ rfl; have pc4 := cell_kept2 H1 4 _ rfl; have pc5 := cell_kept2 H1 5 _ rfl; have pc6 := cell_kept2 H1 6 _ rfl; have pz0 := cell_kept H1 0 _ rfl; have pz1 := cell_kept H1 1 _ rfl; have pz2 := cell_kept H1 2 _ rfl; have pz3 := cell_kept H1 3 _ rfl; have pz4 := cell_kept H1 4 _ rfl; have pz5 := cell_kept H1 5 _ rfl; have pz6 := cell_kept H1 6 _ rfl; have pz7 := cell_kept H1 7 _ rfl; have pz8 := cell_kept H1 8 _ rfl; have pz9 := cell_kept H1 9 _ rfl; simp only [World.size_alloc] at pz0 pz1 pz2 pz3 pz4 pz5 pz6 pz7 pz8 pz9)
      | (go_at_call 10; with_reducible refine (N1 _ G1).mono ?_; rintro e w2 ⟨rfl, hg2⟩; have H2 := grown_more H1 hg2 (by simp); have G2 := G1.kept hg2; have qc0 := cell_kept2 H2 0 _ rfl; have qc1 := cell_kept2 H2 1 _ rfl; have qc2 := cell_kept2 H2 2 _ rfl; have qc3 := cell_kept2 H2 3 _ rfl; have qc4 := cell_kept2 H2 4 _ rfl; have qc5 := cell_kept2 H2 5 _ rfl; have qc6 := cell_kept2 H2 6 _ rfl; have qz0 := cell_kept H2 0 _ rfl; have qz1 := cell_kept H2 1 _ rfl; have qz2 := cell_kept H2 2 _ rfl; have qz3 := cell_kept H2 3 _ rfl; have qz4 := cell_kept H2 4 _ rfl; have qz5 := cell_kept H2 5 _ rfl; have qz6 := cell_kept H2 6 _ rfl; have qz7 := cell_kept H2 7 _ rfl; have qz8 := cell_kept H2 8 _ rfl; have qz9 := cell_kept H2 9 _ rfl; simp only [World.size_alloc] at qz0 qz1 qz2 qz3 qz4 qz5 qz6 qz7 qz8 qz9)
      | (go_at_call 10; with_reducible refine (N2 _ G2).mono ?_; rintro e w3 ⟨rfl, hg3⟩; have H3 := grown_more H2 hg3 (by simp); have G3 := G2.kept hg3; have rc0 := cell_kept2 H3 0 _ rfl; have rc1 := cell_kept2 H3 1 _ rfl; have rc2 := cell_kept2 H3 2 _ rfl; have rc3 := cell_kept2 H3 3 _ rfl; have rc4 := cell_kept2 H3 4 _ rfl; have rc5 := cell_kept2 H3 5 _ rfl; have rc6 := cell_kept2 H3 6 _ rfl; have rz0 := cell_kept H3 0 _ rfl; have rz1 := cell_kept H3 1 _ rfl; have rz2 := cell_kept H3 2 _ rfl; have rz3 := cell_kept H3 3 _ rfl; have rz4 := cell_kept H3 4 _ rfl; have rz5 := cell_kept H3 5 _ rfl; have rz6 := cell_kept H3 6 _ rfl; have rz7 := cell_kept H3 7 _ rfl; have rz8 := cell_kept H3 8 _ rfl; have rz9 := cell_kept H3 9 _ rfl; simp only [World.size_alloc] at rz0 rz1 rz2 rz3 rz4 rz5 rz6 rz7 rz8 rz9)
      | (go_at_call 10; with_reducible refine (N3 _ G3).mono ?_; rintro e w4 ⟨rfl, hg4⟩))
    go_ret
    exact ⟨rfl, grown_more (K2 _ _) (grown_more H3 hg4 (by simp)) (by simp)⟩
  · have z1 : decide (q < p) = true := decide_eq_true (by omega)
    go_enter Tryz.func7, Tryz.ntmps7
    go_wp2_with (first
      | (go_at_call 9; go_must (refine (AW _ (hG.kept (K2 _ _))).mono ?_); rintro e w1 ⟨rfl, H1⟩; have G1 := (hG.kept (K2 _ _)).kept H1; have pc0 := cell_kept2 H1 0 _ rfl; have pc1 := cell_kept2 H1 1 _ rfl; have pc2 := cell_kept2 H1 2 _ rfl; have pc3 := cell_kept2 H1 3 _ rfl; have pc4 := cell_kept2 H1 4 _ rfl; have pc5 := cell_kept2 H1 5 _ rfl; have pc6 := cell_kept2 H1 6 _ rfl; have pz0 := cell_kept H1 0 _ rfl; have pz1 := cell_kept H1 1 _ rfl; have pz2 := cell_kept H1 2 _ rfl; have pz3 := cell_kept H1 3 _ rfl; have pz4 := cell_kept H1 4 _ rfl; have pz5 := cell_kept H1 5 _ rfl; have pz6 := cell_kept H1 6 _ rfl; have pz7 := cell_kept H1 7 _ rfl; have pz8 := cell_kept H1 8 _ rfl; have pz9 := cell_kept H1 9 _ rfl; simp only [World.size_alloc] at pz0 pz1 pz2 pz3 pz4 pz5 pz6 pz7 pz8 pz9)
      | (go_at_call 10; with_reducible refine (N1 _ G1).mono ?_; rintro e w2 ⟨rfl, hg2⟩; have H2 := grown_more H1 hg2 (by simp); have G2 := G1.kept hg2; have qc0 := cell_kept2 H2 0 _ rfl; have qc1 := cell_kept2 H2 1 _ rfl; have qc2 := cell_kept2 H2 2 _ rfl; have qc3 := cell_kept2 H2 3 _ rfl; have qc4 := cell_kept2 H2 4 _ rfl; have qc5 := cell_kept2 H2 5 _ rfl; have qc6 := cell_kept2 H2 6 _ rfl; have qz0 := cell_kept H2 0 _ rfl; have qz1 := cell_kept H2 1 _ rfl; have qz2 := cell_kept H2 2 _ rfl; have qz3 := cell_kept H2 3 _ rfl; have qz4 := cell_kept H2 4 _ rfl; have qz5 := cell_kept H2 5 _ rfl; have qz6 := cell_kept H2 6 _ rfl; have qz7 := cell_kept H2 7 _ rfl; have qz8 := cell_kept H2 8 _ rfl; have qz9 := cell_kept H2 9 _ rfl; simp only [World.size_alloc] at qz0 qz1 qz2 qz3 qz4 qz5 qz6 qz7 qz8 qz9)
      | (go_at_call 10; with_reducible refine (N2 _ G2).mono ?_; rintro e w3 ⟨rfl, hg3⟩; have H3 := grown_more H2 hg3 (by simp); have G3 := G2.kept hg3; have rc0 := cell_kept2 H3 0 _ rfl; have rc1 := cell_kept2 H3 1 _ rfl; have rc2 := cell_kept2 H3 2 _ rfl; have rc3 := cell_kept2 H3 3 _ rfl; have rc4 := cell_kept2 H3 4 _ rfl; have rc5 := cell_kept2 H3 5 _ rfl; have rc6 := cell_kept2 H3 6 _ rfl; have rz0 := cell_kept H3 0 _ rfl; have rz1 := cell_kept H3 1 _ rfl; have rz2 := cell_kept H3 2 _ rfl; have rz3 := cell_kept H3 3 _ rfl; have rz4 := cell_kept H3 4 _ rfl; have rz5 := cell_kept H3 5 _ rfl; have rz6 := cell_kept H3 6 _ rfl; have rz7 := cell_kept H3 7 _ rfl; have rz8 := cell_kept H3 8 _ rfl; have rz9 := cell_kept H3 9 _ rfl; simp only [World.size_alloc] at rz0 rz1 rz2 rz3 rz4 rz5 rz6 rz7 rz8 rz9)
      | (go_at_call 10; with_reducible refine (N3 _ G3).mono ?_; rintro e w4 ⟨rfl, hg4⟩))
    go_ret
    exact ⟨rfl, grown_more (K2 _ _) (grown_more H3 hg4 (by simp)) (by simp)⟩

set_option maxRecDepth 100000 in
set_option maxHeartbeats 3200000 in
theorem rises_g3 (c : Cro.C) (z : Zon.Z) (p q x y t u : Int) (hpq : (p = x ∧ q = y ∧ x ≤ y) ∨ (p = y ∧ q = x ∧ x < y)) (ht1 : 0 ≤ t) (ht2 : t ≤ 226157759) (h4 : ¬ y < t)
    (N1 : ∀ w, Gd w → Calls Tryz.prog 10 #[crv c, zon z, .int .i64 x] w fun r w' => r = .returned (.tuple #[.int .i64 t, .int .i64 0]) ∧ w.grownBy w' none)
    (N2 : ∀ w, Gd w → Calls Tryz.prog 10 #[crv c, zon z, .int .i64 y] w fun r w' => r = .returned (.tuple #[.int .i64 u, .int .i64 60]) ∧ w.grownBy w' none) (N3 : ∀ w, Gd w → Calls Tryz.prog 10 #[crv c, zon z, .int .i64 (t - 1)] w fun r w' => r = .returned (.tuple #[.int .i64 t, .int .i64 0]) ∧ w.grownBy w' none) (w : World) (hG : Gd w) :
    Calls Tryz.prog 7 #[crv c, zon z, .int .i64 p, .int .i64 q] w fun r w' => r = .returned (.bool true) ∧ w.grownBy w' none := by
  have hnot : ∀ (x : Bool) (w : World), (Op.unary .not (.bool x)).run Tryz.prog w = .ok (.bool (!x)) w := fun _ _ => rfl
  have AW := awake_any
  have K2 := fun o1 o2 => grown_alloc (World.grownBy_alloc w o1 none) o2
  have q1 : decide (y < t) = false := decide_eq_false h4
  rcases hpq with ⟨rfl, rfl, hxy⟩ | ⟨rfl, rfl, hxy⟩
  · have z1 : decide (q < p) = false := decide_eq_false (by omega)
    go_enter Tryz.func7, Tryz.ntmps7
    go_wp2_with (first
      | (go_at_call 9; go_must (refine (AW _ (hG.kept (K2 _ _))).mono ?_); rintro e w1 ⟨rfl, H1⟩; have G1 := (hG.kept (K2 _ _)).kept H1; have pc0 := cell_kept2 H1 0 _ rfl; have pc1 := cell_kept2 H1 1 _ rfl; have pc2 := cell_kept2 H1 2 _ rfl; have pc3 := cell_kept2 H1 3 _ rfl; have pc4 := cell_kept2 H1 4 _ rfl; have pc5 := cell_kept2 H1 5 _ rfl; have pc6 := cell_kept2 H1 6 _ rfl; have pz0 := cell_kept H1 0 _ rfl; have pz1 := cell_kept H1 1 _ rfl; have pz2 := cell_kept H1 2 _ rfl; have pz3 := cell_kept H1 3 _ rfl; have pz4 := cell_kept H1 4 _ rfl; have pz5 := cell_kept H1 5 _ rfl; have pz6 := cell_kept H1 6 _ rfl; have pz7 := cell_kept H1 7 _ rfl; have pz8 := cell_kept H1 8 _ rfl; have pz9 := cell_kept H1 9 _ rfl; simp only [World.size_alloc] at pz0 pz1 pz2 pz3 pz4 pz5 pz6 pz7 pz8 pz9)
      | (go_at_call 10; with_reducible refine (N1 _ G1).mono ?_; rintro e w2 ⟨rfl, hg2⟩; have H2 := grown_more H1 hg2 (by simp); have G2 := G1.kept hg2; have qc0 := cell_kept2 H2 0 _ rfl; have qc1 := cell_kept2 H2 1 _ rfl; have qc2 := cell_kept2 H2 2 _ rfl; have qc3 := cell_kept2 H2 3 _ rfl; have qc4 := cell_kept2 H2 4 _ rfl; have qc5 := cell_kept2 H2 5 _ rfl; have qc6 := cell_kept2 H2 6 _ rfl; have qz0 := cell_kept H2 0 _ rfl; have qz1 := cell_kept H2 1 _ rfl; have qz2 := cell_kept H2 2 _ rfl; have qz3 := cell_kept H2 3 _ rfl; have qz4 := cell_kept H2 4 _ rfl; have qz5 := cell_kept H2 5 _ rfl; have qz6 := cell_kept H2 6 _ rfl; have qz7 := cell_kept H2 7 _ rfl; have qz8 := cell_kept H2 8 _ rfl; have qz9 := cell_kept H2 9 _ rfl; simp only [World.size_alloc] at qz0 qz1 qz2 qz3 qz4 qz5 qz6 qz7 qz8 qz9)
      | (go_at_call 10; with_reducible refine (N2 _ G2).mono ?_; rintro e w3 ⟨rfl, hg3⟩; have H3 := grown_more H2 hg3 (by simp); have G3 := G2.kept hg3; have rc0 := cell_kept2 H3 0 _ rfl; have rc1 := cell_kept2 H3 1 _ rfl; have rc2 := cell_kept2 H3 2 _ rfl; have rc3 := cell_kept2 H3 3 _ rfl; have rc4 := cell_kept2 H3 4 _ rfl; have rc5 := cell_kept2 H3 5 _ rfl; have rc6 := cell_kept2 H3 6 _ rfl; have rz0 := cell_kept H3 0 _ rfl; have rz1 := cell_kept H3 1 _ rfl; have rz2 := cell_kept H3 2 _ rfl; have rz3 := cell_kept H3 3 _ rfl; have rz4 := cell_kept H3 4 _ rfl; have rz5 := cell_kept H3 5 _ rfl; have rz6 := cell_kept H3 6 _ rfl; have rz7 := cell_kept H3 7 _ rfl; have rz8 := cell_kept H3 8 _ rfl; have rz9 := cell_kept H3 9 _ rfl; simp only [World.size_alloc] at rz0 rz1 rz2 rz3 rz4 rz5 rz6 rz7 rz8 rz9)
      | (go_at_call 10; with_reducible refine (N3 _ G3).mono ?_; rintro e w4 ⟨rfl, hg4⟩))
    go_ret
    exact ⟨rfl, grown_more (K2 _ _) (grown_more H3 hg4 (by simp)) (by simp)⟩
  · have z1 : decide (q < p) = true := decide_eq_true (by omega)
    go_enter Tryz.func7, Tryz.ntmps7
    go_wp2_with (first
      | (go_at_call 9; go_must (refine (AW _ (hG.kept (K2 _ _))).mono ?_); rintro e w1 ⟨rfl, H1⟩; have G1 := (hG.kept (K2 _ _)).kept H1; have pc0 := cell_kept2 H1 0 _ rfl; have pc1 := cell_kept2 H1 1 _ rfl; have pc2 := cell_kept2 H1 2 _ rfl; have pc3 := cell_kept2 H1 3 _ rfl; have pc4 := cell_kept2 H1 4 _ rfl; have pc5 := cell_kept2 H1 5 _ rfl; have pc6 := cell_kept2 H1 6 _ rfl; have pz0 := cell_kept H1 0 _ rfl; have pz1 := cell_kept H1 1 _ rfl; have pz2 := cell_kept H1 2 _ rfl; have pz3 := cell_kept H1 3 _ rfl; have pz4 := cell_kept H1 4 _ rfl; have pz5 := cell_kept H1 5 _ rfl; have pz6 := cell_kept H1 6 _ rfl; have pz7 := cell_kept H1 7 _ rfl; have pz8 := cell_kept H1 8 _ rfl; have pz9 := cell_kept H1 9 _ rfl; simp only [World.size_alloc] at pz0 pz1 pz2 pz3 pz4 pz5 pz6 pz7 pz8 pz9)
      | (go_at_call 10; with_reducible refine (N1 _ G1).mono ?_; rintro e w2 ⟨rfl, hg2⟩; have H2 := grown_more H1 hg2 (by simp); have G2 := G1.kept hg2; have qc0 := cell_kept2 H2 0 _ rfl; have qc1 := cell_kept2 H2 1 _ rfl; have qc2 := cell_kept2 H2 2 _ rfl; have qc3 := cell_kept2 H2 3 _ rfl; have qc4 := cell_kept2 H2 4 _ rfl; have qc5 := cell_kept2 H2 5 _ rfl; have qc6 := cell_kept2 H2 6 _ rfl; have qz0 := cell_kept H2 0 _ rfl; have qz1 := cell_kept H2 1 _ rfl; have qz2 := cell_kept H2 2 _ rfl; have qz3 := cell_kept H2 3 _ rfl; have qz4 := cell_kept H2 4 _ rfl; have qz5 := cell_kept H2 5 _ rfl; have qz6 := cell_kept H2 6 _ rfl; have qz7 := cell_kept H2 7 _ rfl; have qz8 := cell_kept H2 8 _ rfl; have qz9 := cell_kept H2 9 _ rfl; simp only [World.size_alloc] at qz0 qz1 qz2 qz3 qz4 qz5 qz6 qz7 qz8 qz9)
      | (go_at_call 10; with_reducible refine (N2 _ G2).mono ?_; rintro e w3 ⟨rfl, hg3⟩; have H3 := grown_more H2 hg3 (by simp); have G3 := G2.kept hg3; have rc0 := cell_kept2 H3 0 _ rfl; have rc1 := cell_kept2 H3 1 _ rfl; have rc2 := cell_kept2 H3 2 _ rfl; have rc3 := cell_kept2 H3 3 _ rfl; have rc4 := cell_kept2 H3 4 _ rfl; have rc5 := cell_kept2 H3 5 _ rfl; have rc6 := cell_kept2 H3 6 _ rfl; have rz0 := cell_kept H3 0 _ rfl; have rz1 := cell_kept H3 1 _ rfl; have rz2 := cell_kept H3 2 _ rfl; have rz3 := cell_kept H3 3 _ rfl; have rz4 := cell_kept H3 4 _ rfl; have rz5 := cell_kept H3 5 _ rfl; have rz6 := cell_kept H3 6 _ rfl; have rz7 := cell_kept H3 7 _ rfl; have rz8 := cell_kept H3 8 _ rfl; have rz9 := cell_kept H3 9 _ rfl; simp only [World.size_alloc] at rz0 rz1 rz2 rz3 rz4 rz5 rz6 rz7 rz8 rz9)
      | (go_at_call 10; with_reducible refine (N3 _ G3).mono ?_; rintro e w4 ⟨rfl, hg4⟩))
    go_ret
    exact ⟨rfl, grown_more (K2 _ _) (grown_more H3 hg4 (by simp)) (by simp)⟩

theorem dueRises.walk (W : World) (hX : Gd W) (v0 : Value) (o0 : ∃ c : Cro.C, v0 = crv c ∧ c.ok) (v1 : Value) (o1 : ∃ z, v1 = zon z) (a : Int) (ha : Lit.wf (.int .i64 a) = true) (b : Int) (hb : Lit.wf (.int .i64 b) = true) :
    Calls Tryz.prog 7 #[v0, v1, .int .i64 a, .int .i64 b] W fun e W' => e = .returned (.bool true) ∧ Below W.heap.size W W' := by
  obtain ⟨c, rfl, hc⟩ := o0
  obtain ⟨z, rfl⟩ := o1
  obtain ⟨P, hP⟩ := Due.has_P c z
  have NX := fun a w hG => Next_any c hc z P hP a w hG
  obtain ⟨x, y, hpq, hxy⟩ : ∃ x y, ((a = x ∧ b = y ∧ x ≤ y) ∨ (a = y ∧ b = x ∧ x < y)) ∧ x ≤ y := by
    by_cases h : a ≤ b
    · exact ⟨a, b, .inl ⟨rfl, rfl, h⟩, h⟩
    · exact ⟨b, a, .inr ⟨rfl, rfl, by omega⟩, by omega⟩
  have N1 := NX x
  have N2 := NX y
  have HC := rises_cases P c z x y hxy
  have HT : (Due.nxV P c z x).2 = 0 → ∃ n : Nat, (Due.nxV P c z x).1 = n ∧ n ≤ 226157759 ∧ ∀ w, Gd w → Calls Tryz.prog 10 #[crv c, zon z, .int .i64 ((n : Int) - 1)] w fun r w' => r = .returned (.tuple #[.int .i64 n, .int .i64 0]) ∧ w.grownBy w' none := fun h => by
    obtain ⟨hr, hz, a1, a2, n, hn, hx⟩ := Due.nxV_ok h
    obtain ⟨g1, g2, g3, g4⟩ := Due.nx_some hx
    refine ⟨n, hn, g2, fun w hG => ?_⟩
    have := NX ((n : Int) - 1) w hG
    rw [Due.nxV_at hr hz (by omega) (by omega) (show Due.nx P 226157759 ((n : Int) - 1 + 1).toNat = some n from by rw [show ((n : Int) - 1 + 1).toNat = n by omega]; exact Due.nx_is (Nat.le_refl _) g2 g3 (fun u h1 h2 => by omega))] at this
    exact this
  refine Calls.mono (?_ : Calls Tryz.prog 7 #[crv c, zon z, .int .i64 a, .int .i64 b] W fun r w' => r = .returned (.bool true) ∧ W.grownBy w' none) fun e W' ⟨h1, h2⟩ => ⟨h1, grown_below h2⟩
  generalize (Due.nxV P c z x).1 = t at *
  generalize (Due.nxV P c z x).2 = e at *
  generalize (Due.nxV P c z y).1 = u at *
  generalize (Due.nxV P c z y).2 = f at *
  rcases HC with ⟨h1, h2, rfl, rfl⟩ | ⟨h1, h2, rfl, h4, rfl⟩ | ⟨rfl, h2, h3, rfl, rfl⟩ | ⟨rfl, h2, h3, rfl, h5⟩ | ⟨rfl, h2, h3, rfl, rfl⟩ | ⟨rfl, rfl⟩ | ⟨rfl, rfl, rfl, h4⟩ | ⟨rfl, rfl, h3, h4⟩ | ⟨rfl, rfl, h4⟩
  · exact rises_b1 c z a b x y e f hpq h1 h2 N1 N2 W hX
  · exact rises_b2 c z a b x y e u hpq h1 h2 h4 N1 N2 W hX
  · exact rises_c1 c z a b x y f hpq h2 h3 N1 N2 W hX
  · exact rises_c2 c z a b x y t f hpq h2 h3 h5 N1 N2 W hX
  · exact rises_c3 c z a b x y f hpq h2 h3 N1 N2 W hX
  · exact rises_d c z a b x y t u hpq N1 N2 W hX
  · obtain ⟨n, rfl, hn, N3⟩ := HT rfl
    exact rises_g1 c z a b x y n hpq (by omega) (by omega) h4 N1 N2 N3 W hX
  · obtain ⟨n, rfl, hn, N3⟩ := HT rfl
    exact rises_g2 c z a b x y n u hpq (by omega) (by omega) h3 h4 N1 N2 N3 W hX
  · obtain ⟨n, rfl, hn, N3⟩ := HT rfl
    exact rises_g3 c z a b x y n u hpq (by omega) (by omega) h4 N1 N2 N3 W hX
end Go.Proofs.YtegekjgjabckgaaGreatDoor
