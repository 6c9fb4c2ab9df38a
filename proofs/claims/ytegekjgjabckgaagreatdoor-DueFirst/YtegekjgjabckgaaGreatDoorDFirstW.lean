/- The statement that an occurrence that is told is one, and that none lies ahead of it: its walk. -/
import Derived.Test.YtegekjgjabckgaaGreatDoorDAwake
import Derived.Test.YtegekjgjabckgaaGreatDoorDArgs
import Derived.Test.YtegekjgjabckgaaGreatDoorDNxV
namespace Go.Proofs.YtegekjgjabckgaaGreatDoor
open Go.RowKit
set_option linter.unusedVariables false

/-- A world that has grown out of W. -/
structure Gq (W : World) where
  now : World
  grown : W.grownBy now none
  gl : Gl now
theorem Gq.call {P : Program} {W : World} {x : Gq W} {f : FuncId} {args : Array Value} {v : Value}
    (k : Calls P f args x.now fun e w' => e = .returned v ∧ x.now.grownBy w' none) : Calls P f args x.now fun e w' => e = .returned v ∧ ∃ x' : Gq W, w' = x'.now :=
  k.mono fun _ w' ⟨he, hg⟩ => ⟨he, ⟨w', grown_more x.grown hg (by simp), x.gl.kept hg⟩, rfl⟩
theorem look_in {a E x : Int} (h : a + 1 < E) (hx : 0 ≤ x) : 0 ≤ x % (E - a - 1) ∧ x % (E - a - 1) < E - a - 1 := ⟨Int.emod_nonneg _ (by omega), Int.emod_lt_of_pos _ (by omega)⟩


set_option maxRecDepth 100000 in
set_option maxHeartbeats 1600000 in
theorem first_bad (c : Cro.C) (z : Zon.Z) (a e : Int) (h1 : e ≠ 0) (h2 : e ≠ 60) (N1 : ∀ w, Gd w → Calls Tryz.prog 10 #[crv c, zon z, .int .i64 a] w fun r w' => r = .returned (.tuple #[.int .i64 0, .int .i64 e]) ∧ w.grownBy w' none) (ad : Option Addr) (n cp : Nat) (w : World) (hG : Gd w) :
    Calls Tryz.prog 5 #[crv c, zon z, .int .i64 a, .slice ad n cp] w fun r w' => r = .returned (.bool true) ∧ w.grownBy w' none := by
  have hnot : ∀ (x : Bool) (w : World), (Op.unary .not (.bool x)).run Tryz.prog w = .ok (.bool (!x)) w := fun _ _ => rfl
  have AW := awake_any
  have K2 := fun o1 o2 => grown_alloc (World.grownBy_alloc w o1 none) o2
  have q1 : (e != 0) = true := by simpa using h1
  have q2 : (e == 60) = false := by simpa using h2
  go_enter Tryz.func5, Tryz.ntmps5
  go_wp2_with (first
    | (go_at_call 9; go_must (refine (AW _ (hG.kept (K2 _ _))).mono ?_); rintro e w1 ⟨rfl, H1⟩; have G1 := (hG.kept (K2 _ _)).kept H1; have pc0 := cell_kept2 H1 0 _ rfl; have pc1 := cell_kept2 H1 1 _ rfl; have pc2 := cell_kept2 H1 2 _ rfl; have pc3 := cell_kept2 H1 3 _ rfl; have pc4 := cell_kept2 H1 4 _ rfl; have pc5 := cell_kept2 H1 5 _ rfl; have pc6 := cell_kept2 H1 6 _ rfl; have pz0 := cell_kept H1 0 _ rfl; have pz1 := cell_kept H1 1 _ rfl; have pz2 := cell_kept H1 2 _ rfl; have pz3 := cell_kept H1 3 _ rfl; have pz4 := cell_kept H1 4 _ rfl; have pz5 := cell_kept H1 5 _ rfl; have pz6 := cell_kept H1 6 _ rfl; have pz7 := cell_kept H1 7 _ rfl; have pz8 := cell_kept H1 8 _ rfl; have pz9 := cell_kept H1 9 _ rfl; simp only [World.size_alloc] at pz0 pz1 pz2 pz3 pz4 pz5 pz6 pz7 pz8 pz9)
    | (go_at_call 10; go_must (refine (N1 _ G1).mono ?_); rintro e w2 ⟨rfl, hg2⟩; have H2 := grown_more H1 hg2 (by simp); have G2 := G1.kept hg2; have qc0 := cell_kept2 H2 0 _ rfl; have qc1 := cell_kept2 H2 1 _ rfl; have qc2 := cell_kept2 H2 2 _ rfl; have qc3 := cell_kept2 H2 3 _ rfl; have qc4 := cell_kept2 H2 4 _ rfl; have qc5 := cell_kept2 H2 5 _ rfl; have qc6 := cell_kept2 H2 6 _ rfl; have qz0 := cell_kept H2 0 _ rfl; have qz1 := cell_kept H2 1 _ rfl; have qz2 := cell_kept H2 2 _ rfl; have qz3 := cell_kept H2 3 _ rfl; have qz4 := cell_kept H2 4 _ rfl; have qz5 := cell_kept H2 5 _ rfl; have qz6 := cell_kept H2 6 _ rfl; have qz7 := cell_kept H2 7 _ rfl; have qz8 := cell_kept H2 8 _ rfl; have qz9 := cell_kept H2 9 _ rfl; simp only [World.size_alloc] at qz0 qz1 qz2 qz3 qz4 qz5 qz6 qz7 qz8 qz9))
  go_ret
  exact ⟨rfl, grown_more (K2 _ _) H2 (by simp)⟩

set_option maxRecDepth 100000 in
set_option maxHeartbeats 6400000 in
theorem first_none (c : Cro.C) (z : Zon.Z) (a : Int) (a1 : -1 ≤ a) (a2 : a ≤ 226157759) (N1 : ∀ w, Gd w → Calls Tryz.prog 10 #[crv c, zon z, .int .i64 a] w fun r w' => r = .returned (.tuple #[.int .i64 0, .int .i64 60]) ∧ w.grownBy w' none)
    (IF : ∀ y, a + 1 ≤ y → y < 226157760 → ∀ w, Gl w → Calls Tryz.prog 12 #[crv c, zon z, .int .i64 y] w fun r w' => r = .returned (.bool false) ∧ w.grownBy w' none)
    (ad : Option Addr) (n cp : Nat) (hn : n ≤ 9223372036854775807) (w : World) (hS : Si w ad n) (hG : Gd w) :
    Calls Tryz.prog 5 #[crv c, zon z, .int .i64 a, .slice ad n cp] w fun r w' => r = .returned (.bool true) ∧ w.grownBy w' none := by
  have hnot : ∀ (x : Bool) (w : World), (Op.unary .not (.bool x)).run Tryz.prog w = .ok (.bool (!x)) w := fun _ _ => rfl
  have AW := awake_any
  have K2 := fun o1 o2 => grown_alloc (World.grownBy_alloc w o1 none) o2
  have HI : Hid _ := IF
  clear IF
  go_enter Tryz.func5, Tryz.ntmps5
  go_wp2_with (first
    | (go_at_call 9; go_must (refine (AW _ (hG.kept (K2 _ _))).mono ?_); rintro e w1 ⟨rfl, H1⟩; have G1 := (hG.kept (K2 _ _)).kept H1; have pc0 := cell_kept2 H1 0 _ rfl; have pc1 := cell_kept2 H1 1 _ rfl; have pc2 := cell_kept2 H1 2 _ rfl; have pc3 := cell_kept2 H1 3 _ rfl; have pc4 := cell_kept2 H1 4 _ rfl; have pc5 := cell_kept2 H1 5 _ rfl; have pc6 := cell_kept2 H1 6 _ rfl; have pz0 := cell_kept H1 0 _ rfl; have pz1 := cell_kept H1 1 _ rfl; have pz2 := cell_kept H1 2 _ rfl; have pz3 := cell_kept H1 3 _ rfl; have pz4 := cell_kept H1 4 _ rfl; have pz5 := cell_kept H1 5 _ rfl; have pz6 := cell_kept H1 6 _ rfl; have pz7 := cell_kept H1 7 _ rfl; have pz8 := cell_kept H1 8 _ rfl; have pz9 := cell_kept H1 9 _ rfl; simp only [World.size_alloc] at pz0 pz1 pz2 pz3 pz4 pz5 pz6 pz7 pz8 pz9)
    | (go_at_call 10; go_must (refine (N1 _ G1).mono ?_); rintro e w2 ⟨rfl, hg2⟩; have H2 := grown_more H1 hg2 (by simp); have G2 := G1.kept hg2; have qc0 := cell_kept2 H2 0 _ rfl; have qc1 := cell_kept2 H2 1 _ rfl; have qc2 := cell_kept2 H2 2 _ rfl; have qc3 := cell_kept2 H2 3 _ rfl; have qc4 := cell_kept2 H2 4 _ rfl; have qc5 := cell_kept2 H2 5 _ rfl; have qc6 := cell_kept2 H2 6 _ rfl; have qz0 := cell_kept H2 0 _ rfl; have qz1 := cell_kept H2 1 _ rfl; have qz2 := cell_kept H2 2 _ rfl; have qz3 := cell_kept H2 3 _ rfl; have qz4 := cell_kept H2 4 _ rfl; have qz5 := cell_kept H2 5 _ rfl; have qz6 := cell_kept H2 6 _ rfl; have qz7 := cell_kept H2 7 _ rfl; have qz8 := cell_kept H2 8 _ rfl; have qz9 := cell_kept H2 9 _ rfl; simp only [World.size_alloc] at qz0 qz1 qz2 qz3 qz4 qz5 qz6 qz7 qz8 qz9))
  have KW : w.grownBy w2 none := grown_more (K2 _ _) H2 (by simp)
  have HX : Hid _ := H2
  have GW : Hid (Gl w2) := G2.gl
  go_loopw [12] (fun i wr => ∃ j : Nat, j ≤ n ∧ j ≤ 256 ∧ i = .int .i64 j ∧ w2.grownBy wr none) (fun i _ => (300 - intOf i).toNat)
  case atStart => exact ⟨0, by omega, by omega, rfl, grown_refl _ _⟩
  case round =>
    obtain ⟨j, hj, hj2, rfl, hGr⟩ := hrel
    have GR := GW.out.kept hGr
    have HK := grown_more HX.out hGr (by simp)
    by_cases hgo : (j < n ∧ j < 256) ∧ a + 1 < 226157760
    · obtain ⟨⟨hjn, hj6⟩, hE⟩ := hgo
      obtain ⟨q, off, x, rfl, cx, hx1, hx2⟩ := (hS.kept (grown_more KW hGr (by simp))) j hjn
      have xc : ∀ g : Gq wr, _ := fun g => grown_more HK g.grown (by simp)
      have xc0 := fun g : Gq wr => cell_kept2 (xc g) 0 _ rfl
      have xc1 := fun g : Gq wr => cell_kept2 (xc g) 1 _ rfl
      have xc2 := fun g : Gq wr => cell_kept2 (xc g) 2 _ rfl
      have xc3 := fun g : Gq wr => cell_kept2 (xc g) 3 _ rfl
      have xc4 := fun g : Gq wr => cell_kept2 (xc g) 4 _ rfl
      have xc5 := fun g : Gq wr => cell_kept2 (xc g) 5 _ rfl
      have xc6 := fun g : Gq wr => cell_kept2 (xc g) 6 _ rfl
      have xz0 := fun g : Gq wr => cell_kept (xc g) 0 _ rfl
      have xz1 := fun g : Gq wr => cell_kept (xc g) 1 _ rfl
      have xz2 := fun g : Gq wr => cell_kept (xc g) 2 _ rfl
      have xz3 := fun g : Gq wr => cell_kept (xc g) 3 _ rfl
      have xz4 := fun g : Gq wr => cell_kept (xc g) 4 _ rfl
      have xz5 := fun g : Gq wr => cell_kept (xc g) 5 _ rfl
      have xz6 := fun g : Gq wr => cell_kept (xc g) 6 _ rfl
      have xz7 := fun g : Gq wr => cell_kept (xc g) 7 _ rfl
      have xz8 := fun g : Gq wr => cell_kept (xc g) 8 _ rfl
      have xz9 := fun g : Gq wr => cell_kept (xc g) 9 _ rfl
      simp only [World.size_alloc] at xz0 xz1 xz2 xz3 xz4 xz5 xz6 xz7 xz8 xz9
      have hne : Nonempty (Gq wr) := ⟨wr, grown_refl _ _, GR⟩
      by_cases hneg : x < 0
      · have hy := look_in (a := a) (E := 226157760) (x := (0 - (x + 1))) hE (by omega)
        have O := HI.out (a + 1 + (0 - (x + 1)) % (226157760 - a - 1)) (by omega) (by omega)
        have hm : (x + 1).tmod (226157760 - a - 1) = -((0 - (x + 1)) % (226157760 - a - 1)) := by
          have h := Int.tmod_eq_emod_of_nonneg (a := 0 - (x + 1)) (b := 226157760 - a - 1) (by omega)
          rw [show 0 - (x + 1) = -(x + 1) by omega, Int.neg_tmod] at h
          rw [show 0 - (x + 1) = -(x + 1) by omega]
          omega
        generalize hr : (0 - (x + 1)) % (226157760 - a - 1) = r at O hy hm
        obtain ⟨hy1, hy2⟩ := hy
        clear hr
        have hd0 : ¬ (226157760 - a - 1 = 0) := by omega
        go_upto_region 17 with fail
        refine wp_region_quiet_at (C := fun w' => ∃ x : Gq wr, w' = x.now) (by kernel_rfl) (by kernel_rfl) ⟨⟨_, grown_drewN (grown_refl _ _) 1, GR.kept (grown_drewN (grown_refl _ _) 1)⟩, rfl⟩ ?_
        repeat (go_big_quiet_step ((go_at_call 12; with_reducible refine Gq.call (O _ (Gq.gl _)))))
        refine wpQuiet_nil ?_
        rintro _ ⟨g, rfl⟩
        go_wp2_with fail
        go_roundw
        case rel => exact ⟨j + 1, by omega, by omega, val_int (by omega), grown_more hGr g.grown (by simp)⟩
        case measure => simp [intOf]; omega
      · have hy := look_in (a := a) (E := 226157760) (x := x) hE (by omega)
        have O := HI.out (a + 1 + x % (226157760 - a - 1)) (by omega) (by omega)
        have hm : x.tmod (226157760 - a - 1) = x % (226157760 - a - 1) := Int.tmod_eq_emod_of_nonneg (by omega)
        generalize hr : x % (226157760 - a - 1) = r at O hy hm
        obtain ⟨hy1, hy2⟩ := hy
        clear hr
        have hd0 : ¬ (226157760 - a - 1 = 0) := by omega
        go_upto_region 17 with fail
        refine wp_region_quiet_at (C := fun w' => ∃ x : Gq wr, w' = x.now) (by kernel_rfl) (by kernel_rfl) ⟨⟨_, grown_drewN (grown_refl _ _) 1, GR.kept (grown_drewN (grown_refl _ _) 1)⟩, rfl⟩ ?_
        repeat (go_big_quiet_step ((go_at_call 12; with_reducible refine Gq.call (O _ (Gq.gl _)))))
        refine wpQuiet_nil ?_
        rintro _ ⟨g, rfl⟩
        go_wp2_with fail
        go_roundw
        case rel => exact ⟨j + 1, by omega, by omega, val_int (by omega), grown_more hGr g.grown (by simp)⟩
        case measure => simp [intOf]; omega
    · have KF : w.grownBy wr none := grown_more KW hGr (by simp)
      by_cases h1 : j < n
      · by_cases h2 : j < 256
        · have g1 : decide (a + 1 < 226157760) = false := decide_eq_false (fun h => hgo ⟨⟨h1, h2⟩, h⟩)
          go_wp2_with fail
          go_ret
          exact ⟨rfl, KF⟩
        · have g1 : decide ((j : Int) < 256) = false := decide_eq_false (by omega)
          go_wp2_with fail
          go_ret
          exact ⟨rfl, KF⟩
      · have g1 : decide ((j : Int) < n) = false := decide_eq_false (by omega)
        go_wp2_with fail
        go_ret
        exact ⟨rfl, KF⟩

set_option maxRecDepth 100000 in
set_option maxHeartbeats 6400000 in
theorem first_ok (c : Cro.C) (z : Zon.Z) (a t : Int) (a1 : -1 ≤ a) (a2 : a ≤ 226157759) (t1 : a < t) (t2 : t ≤ 226157759) (N1 : ∀ w, Gd w → Calls Tryz.prog 10 #[crv c, zon z, .int .i64 a] w fun r w' => r = .returned (.tuple #[.int .i64 t, .int .i64 0]) ∧ w.grownBy w' none) (IT : ∀ w, Gl w → Calls Tryz.prog 12 #[crv c, zon z, .int .i64 t] w fun r w' => r = .returned (.bool true) ∧ w.grownBy w' none)
    (IF : ∀ y, a + 1 ≤ y → y < t → ∀ w, Gl w → Calls Tryz.prog 12 #[crv c, zon z, .int .i64 y] w fun r w' => r = .returned (.bool false) ∧ w.grownBy w' none)
    (ad : Option Addr) (n cp : Nat) (hn : n ≤ 9223372036854775807) (w : World) (hS : Si w ad n) (hG : Gd w) :
    Calls Tryz.prog 5 #[crv c, zon z, .int .i64 a, .slice ad n cp] w fun r w' => r = .returned (.bool true) ∧ w.grownBy w' none := by
  have hnot : ∀ (x : Bool) (w : World), (Op.unary .not (.bool x)).run Tryz.prog w = .ok (.bool (!x)) w := fun _ _ => rfl
  have AW := awake_any
  have K2 := fun o1 o2 => grown_alloc (World.grownBy_alloc w o1 none) o2
  have HI : Hid _ := IF
  clear IF
  have q1 : decide (t ≤ a) = false := decide_eq_false (by omega)
  go_enter Tryz.func5, Tryz.ntmps5
  go_wp2_with (first
    | (go_at_call 9; go_must (refine (AW _ (hG.kept (K2 _ _))).mono ?_); rintro e w1 ⟨rfl, H1⟩; have G1 := (hG.kept (K2 _ _)).kept H1; have pc0 := cell_kept2 H1 0 _ rfl; have pc1 := cell_kept2 H1 1 _ rfl; have pc2 := cell_kept2 H1 2 _ rfl; have pc3 := cell_kept2 H1 3 _ rfl; have pc4 := cell_kept2 H1 4 _ rfl; have pc5 := cell_kept2 H1 5 _ rfl; have pc6 := cell_kept2 H1 6 _ rfl; have pz0 := cell_kept H1 0 _ rfl; have pz1 := cell_kept H1 1 _ rfl; have pz2 := cell_kept H1 2 _ rfl; have pz3 := cell_kept H1 3 _ rfl; have pz4 := cell_kept H1 4 _ rfl; have pz5 := cell_kept H1 5 _ rfl; have pz6 := cell_kept H1 6 _ rfl; have pz7 := cell_kept H1 7 _ rfl; have pz8 := cell_kept H1 8 _ rfl; have pz9 := cell_kept H1 9 _ rfl; simp only [World.size_alloc] at pz0 pz1 pz2 pz3 pz4 pz5 pz6 pz7 pz8 pz9)
    | (go_at_call 10; go_must (refine (N1 _ G1).mono ?_); rintro e w2 ⟨rfl, hg2⟩; have H2 := grown_more H1 hg2 (by simp); have G2 := G1.kept hg2; have qc0 := cell_kept2 H2 0 _ rfl; have qc1 := cell_kept2 H2 1 _ rfl; have qc2 := cell_kept2 H2 2 _ rfl; have qc3 := cell_kept2 H2 3 _ rfl; have qc4 := cell_kept2 H2 4 _ rfl; have qc5 := cell_kept2 H2 5 _ rfl; have qc6 := cell_kept2 H2 6 _ rfl; have qz0 := cell_kept H2 0 _ rfl; have qz1 := cell_kept H2 1 _ rfl; have qz2 := cell_kept H2 2 _ rfl; have qz3 := cell_kept H2 3 _ rfl; have qz4 := cell_kept H2 4 _ rfl; have qz5 := cell_kept H2 5 _ rfl; have qz6 := cell_kept H2 6 _ rfl; have qz7 := cell_kept H2 7 _ rfl; have qz8 := cell_kept H2 8 _ rfl; have qz9 := cell_kept H2 9 _ rfl; simp only [World.size_alloc] at qz0 qz1 qz2 qz3 qz4 qz5 qz6 qz7 qz8 qz9)
    | (go_at_call 12; go_must (refine (IT _ G2.gl).mono ?_); rintro e w3 ⟨rfl, hg3⟩; have H3 := grown_more H2 hg3 (by simp); have G3 := G2.kept hg3))
  have KW : w.grownBy w3 none := grown_more (K2 _ _) H3 (by simp)
  have HX : Hid _ := H3
  have GW : Hid (Gl w3) := G3.gl
  go_loopw [12] (fun i wr => ∃ j : Nat, j ≤ n ∧ j ≤ 256 ∧ i = .int .i64 j ∧ w3.grownBy wr none) (fun i _ => (300 - intOf i).toNat)
  case atStart => exact ⟨0, by omega, by omega, rfl, grown_refl _ _⟩
  case round =>
    obtain ⟨j, hj, hj2, rfl, hGr⟩ := hrel
    have GR := GW.out.kept hGr
    have HK := grown_more HX.out hGr (by simp)
    by_cases hgo : (j < n ∧ j < 256) ∧ a + 1 < t
    · obtain ⟨⟨hjn, hj6⟩, hE⟩ := hgo
      obtain ⟨q, off, x, rfl, cx, hx1, hx2⟩ := (hS.kept (grown_more KW hGr (by simp))) j hjn
      have xc : ∀ g : Gq wr, _ := fun g => grown_more HK g.grown (by simp)
      have xc0 := fun g : Gq wr => cell_kept2 (xc g) 0 _ rfl
      have xc1 := fun g : Gq wr => cell_kept2 (xc g) 1 _ rfl
      have xc2 := fun g : Gq wr => cell_kept2 (xc g) 2 _ rfl
      have xc3 := fun g : Gq wr => cell_kept2 (xc g) 3 _ rfl
      have xc4 := fun g : Gq wr => cell_kept2 (xc g) 4 _ rfl
      have xc5 := fun g : Gq wr => cell_kept2 (xc g) 5 _ rfl
      have xc6 := fun g : Gq wr => cell_kept2 (xc g) 6 _ rfl
      have xz0 := fun g : Gq wr => cell_kept (xc g) 0 _ rfl
      have xz1 := fun g : Gq wr => cell_kept (xc g) 1 _ rfl
      have xz2 := fun g : Gq wr => cell_kept (xc g) 2 _ rfl
      have xz3 := fun g : Gq wr => cell_kept (xc g) 3 _ rfl
      have xz4 := fun g : Gq wr => cell_kept (xc g) 4 _ rfl
      have xz5 := fun g : Gq wr => cell_kept (xc g) 5 _ rfl
      have xz6 := fun g : Gq wr => cell_kept (xc g) 6 _ rfl
      have xz7 := fun g : Gq wr => cell_kept (xc g) 7 _ rfl
      have xz8 := fun g : Gq wr => cell_kept (xc g) 8 _ rfl
      have xz9 := fun g : Gq wr => cell_kept (xc g) 9 _ rfl
      simp only [World.size_alloc] at xz0 xz1 xz2 xz3 xz4 xz5 xz6 xz7 xz8 xz9
      have hne : Nonempty (Gq wr) := ⟨wr, grown_refl _ _, GR⟩
      by_cases hneg : x < 0
      · have hy := look_in (a := a) (E := t) (x := (0 - (x + 1))) hE (by omega)
        have O := HI.out (a + 1 + (0 - (x + 1)) % (t - a - 1)) (by omega) (by omega)
        have hm : (x + 1).tmod (t - a - 1) = -((0 - (x + 1)) % (t - a - 1)) := by
          have h := Int.tmod_eq_emod_of_nonneg (a := 0 - (x + 1)) (b := t - a - 1) (by omega)
          rw [show 0 - (x + 1) = -(x + 1) by omega, Int.neg_tmod] at h
          rw [show 0 - (x + 1) = -(x + 1) by omega]
          omega
        generalize hr : (0 - (x + 1)) % (t - a - 1) = r at O hy hm
        obtain ⟨hy1, hy2⟩ := hy
        clear hr
        have hd0 : ¬ (t - a - 1 = 0) := by omega
        go_upto_region 17 with fail
        refine wp_region_quiet_at (C := fun w' => ∃ x : Gq wr, w' = x.now) (by kernel_rfl) (by kernel_rfl) ⟨⟨_, grown_drewN (grown_refl _ _) 1, GR.kept (grown_drewN (grown_refl _ _) 1)⟩, rfl⟩ ?_
        repeat (go_big_quiet_step ((go_at_call 12; with_reducible refine Gq.call (O _ (Gq.gl _)))))
        refine wpQuiet_nil ?_
        rintro _ ⟨g, rfl⟩
        go_wp2_with fail
        go_roundw
        case rel => exact ⟨j + 1, by omega, by omega, val_int (by omega), grown_more hGr g.grown (by simp)⟩
        case measure => simp [intOf]; omega
      · have hy := look_in (a := a) (E := t) (x := x) hE (by omega)
        have O := HI.out (a + 1 + x % (t - a - 1)) (by omega) (by omega)
        have hm : x.tmod (t - a - 1) = x % (t - a - 1) := Int.tmod_eq_emod_of_nonneg (by omega)
        generalize hr : x % (t - a - 1) = r at O hy hm
        obtain ⟨hy1, hy2⟩ := hy
        clear hr
        have hd0 : ¬ (t - a - 1 = 0) := by omega
        go_upto_region 17 with fail
        refine wp_region_quiet_at (C := fun w' => ∃ x : Gq wr, w' = x.now) (by kernel_rfl) (by kernel_rfl) ⟨⟨_, grown_drewN (grown_refl _ _) 1, GR.kept (grown_drewN (grown_refl _ _) 1)⟩, rfl⟩ ?_
        repeat (go_big_quiet_step ((go_at_call 12; with_reducible refine Gq.call (O _ (Gq.gl _)))))
        refine wpQuiet_nil ?_
        rintro _ ⟨g, rfl⟩
        go_wp2_with fail
        go_roundw
        case rel => exact ⟨j + 1, by omega, by omega, val_int (by omega), grown_more hGr g.grown (by simp)⟩
        case measure => simp [intOf]; omega
    · have KF : w.grownBy wr none := grown_more KW hGr (by simp)
      by_cases h1 : j < n
      · by_cases h2 : j < 256
        · have g1 : decide (a + 1 < t) = false := decide_eq_false (fun h => hgo ⟨⟨h1, h2⟩, h⟩)
          go_wp2_with fail
          go_ret
          exact ⟨rfl, KF⟩
        · have g1 : decide ((j : Int) < 256) = false := decide_eq_false (by omega)
          go_wp2_with fail
          go_ret
          exact ⟨rfl, KF⟩
      · have g1 : decide ((j : Int) < n) = false := decide_eq_false (by omega)
        go_wp2_with fail
        go_ret
        exact ⟨rfl, KF⟩

theorem dueFirst.walk (W : World) (hX : Gd W) (v0 : Value) (o0 : ∃ c : Cro.C, v0 = crv c ∧ c.ok) (v1 : Value) (o1 : ∃ z, v1 = zon z) (a : Int) (ha : Lit.wf (.int .i64 a) = true) (v3 : Value) (o3 : ∃ ad n cp, v3 = .slice ad n cp ∧ Si W ad n ∧ n ≤ 9223372036854775807) :
    Calls Tryz.prog 5 #[v0, v1, .int .i64 a, v3] W fun e W' => e = .returned (.bool true) ∧ Below W.heap.size W W' := by
  obtain ⟨c, rfl, hc⟩ := o0
  obtain ⟨z, rfl⟩ := o1
  obtain ⟨ad, n, cp, rfl, hS, hn⟩ := o3
  obtain ⟨P, hP⟩ := Due.has_P c z
  refine Calls.mono (?_ : Calls Tryz.prog 5 #[crv c, zon z, .int .i64 a, .slice ad n cp] W fun r w' => r = .returned (.bool true) ∧ W.grownBy w' none) fun e W' ⟨h1, h2⟩ => ⟨h1, grown_below h2⟩
  have N1 := fun w hG => Next_any c hc z P hP a w hG
  have IS := fun y w hG => Is_any c hc z P hP y w hG
  have IF : ∀ y : Int, (0 ≤ y → y ≤ 226157759 → P y.toNat = false) → ∀ w, Gl w → Calls Tryz.prog 12 #[crv c, zon z, .int .i64 y] w fun r w' => r = .returned (.bool false) ∧ w.grownBy w' none := fun y hy w hG => by
    have := IS y w hG
    rw [show Due.isV P z y = false from by
      unfold Due.isV
      by_cases h : 0 ≤ y ∧ y ≤ 226157759
      · rw [hy h.1 h.2]; simp
      · rw [decide_eq_false h]; simp] at this
    exact this
  by_cases e0 : (Due.nxV P c z a).2 = 0
  · obtain ⟨hr, hz, a1, a2, m, hm, hx⟩ := Due.nxV_ok e0
    obtain ⟨g1, g2, g3, g4⟩ := Due.nx_some hx
    rw [e0, hm] at N1
    have IT : ∀ w, Gl w → Calls Tryz.prog 12 #[crv c, zon z, .int .i64 m] w fun r w' => r = .returned (.bool true) ∧ w.grownBy w' none := fun w hG => by
      have := IS m w hG
      rw [show Due.isV P z m = true from by unfold Due.isV; rw [decide_eq_true hz, decide_eq_true (show 0 ≤ (m : Int) ∧ (m : Int) ≤ 226157759 by omega), Int.toNat_natCast, g3]; rfl] at this
      exact this
    exact first_ok c z a m a1 a2 (by omega) (by omega) N1 IT (fun y h1 h2 => IF y (fun _ _ => g4 _ (by omega) (by omega))) ad n cp hn W hS hX
  · rw [Due.nxV_bad e0] at N1
    by_cases e60 : (Due.nxV P c z a).2 = 60
    · obtain ⟨hr, hz, a1, a2, hx⟩ := Due.nxV_none e60
      rw [e60] at N1
      exact first_none c z a a1 a2 N1 (fun y h1 h2 => IF y (fun _ h => Due.nx_none hx _ (by omega) (by omega))) ad n cp hn W hS hX
    · exact first_bad c z a _ e0 e60 N1 ad n cp W hX
end Go.Proofs.YtegekjgjabckgaaGreatDoor
