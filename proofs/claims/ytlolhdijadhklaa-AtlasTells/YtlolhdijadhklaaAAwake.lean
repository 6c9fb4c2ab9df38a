/- awake: the example's answers. -/
import Derived.Test.YtlolhdijadhklaaAAwM
import Derived.Test.YtlolhdijadhklaaABegin
import Derived.Test.YtlolhdijadhklaaAAdvance
import Derived.Test.YtlolhdijadhklaaAFind
namespace Go.Proofs.Ytlolhdijadhklaa
open Go.RowKit Atl
set_option linter.unusedVariables false
set_option maxRecDepth 10000

theorem szm_of {a : Am} (h : Rgt a) : Szm a := by
  have hs : ∀ k : ByteArray, k = em ∨ named k = true → k.size ≤ 140737488351232 := fun k hk => by
    rcases hk with rfl | hk
    · decide
    · have := named_size hk; omega
  refine ⟨fun s hs' => ?_, ?_⟩
  · have := jn_ends h.jn s hs'
    exact ⟨hs _ this.1, hs _ this.2⟩
  · cases hp : peq a.p zP with
    | true => rw [peq_iff.1 hp]; decide
    | false =>
      obtain ⟨s, hs1, _, _, _, hkd, _, _⟩ := plan_span h hp
      unfold kindB at hkd
      by_cases k1 : a.p.k = 1
      · rw [if_pos k1] at hkd
        unfold moveB at hkd
        simp only [Bool.and_eq_true, beq_iff_eq] at hkd
        exact hs _ (.inl (list_em.1 hkd.2))
      · rw [if_neg k1] at hkd
        by_cases k2 : a.p.k = 2
        · rw [if_pos k2] at hkd
          unfold splitB parts at hkd
          simp only [Bool.and_eq_true] at hkd
          exact hs _ (.inr hkd.1.2.1.1)
        · rw [if_neg k2] at hkd
          by_cases k3 : a.p.k = 3
          · rw [if_pos k3] at hkd
            unfold mergeB at hkd
            cases ht : a.l[idx a.l a.p.sh + 1]? with
            | none => rw [ht] at hkd; cases hkd
            | some t =>
              rw [ht] at hkd
              simp only [Bool.and_eq_true, beq_iff_eq] at hkd
              exact hs _ (.inl (list_em.1 hkd.2))
          · rw [if_neg k3] at hkd; cases hkd
/-- A map in a new box. -/
theorem box_a {w W : World} {a : Am} {u : S3} {t : TypeId} (g : (w.alloc (.cells (aa a u) t)).grownBy W none) : W.rangeAt w.heap.size 0 (ac a u) := (cs_new g).1
set_option maxRecDepth 100000 in
set_option maxHeartbeats 6400000 in
theorem awake_any (w : World) : Calls Try.prog 9 #[] w fun e w' => e = .returned (.bool true) ∧ w.grownBy w' none := by
  have NW : Calls Try.prog 12 #[.int .i64 2] w fun e w' => Res w mA 0 e w' := by
    have := new_any 2 w
    rwa [new_A.1, new_A.2] at this
  have BG : Hid (∀ W u, Rat W mA u → Calls Try.prog 17 #[av mA u, .agg #[.int .i64 1, .int .i64 0, .int .i64 1, .int .i64 0, .int .i64 2, .int .i64 0, .int .i64 0, .string ⟨#[]⟩]] W fun e w' => Res W mB 0 e w') := fun W u r => by
    have := begin_any mA u qx W r (szm_of rgt_A) (by decide)
    rwa [beg_A.1, beg_A.2] at this
  have AV : Hid (∀ W u, Rat W mB u → Calls Try.prog 19 #[av mB u, .int .i64 1] W fun e w' => Res W mC 0 e w') := fun W u r => by
    have := advance_any mB u 1 W r (szm_of rgt_B)
    rwa [adv_B.1, adv_B.2] at this
  have AW : Hid (∀ W u, Rat W mC u → Calls Try.prog 19 #[av mC u, .int .i64 1] W fun e w' => Res W (advM mC 1) 4 e w') := fun W u r => by
    have := advance_any mC u 1 W r (szm_of rgt_C)
    rwa [adv_C] at this
  have FD : Hid (∀ W u, Rat W mC u → Calls Try.prog 10 #[av mC u, .string ⟨#[120]⟩] W fun e w' => e = .returned (.tuple #[sv s22, .bool true]) ∧ W.grownBy w' none) := fun W u r => by
    have := find_any mC u kx W r (szm_of rgt_C) (by decide)
    rwa [find_C.1, find_C.2] at this
  go_enter Try.func9, Try.ntmps9
  go_upto_region 2 with (go_at_call 12; (with_reducible refine NW.mono ?_); rintro e w1 ⟨u1, rfl, r1, g1, _⟩)
  have R1 : Hid (Rat (w1.alloc (.cells (aa mA u1) 26)) mA u1) := r1.grown (World.grownBy_alloc _ _ none)
  have X1 : Hid ((w1.alloc (.cells (aa mA u1) 26)).rangeAt w1.heap.size 0 (ac mA u1)) := box_a (grown_refl _ _)
  have G1 : Hid (w.grownBy (w1.alloc (.cells (aa mA u1) 26)) none) := grown_alloc g1 _
  clear NW r1 g1
  generalize w1.alloc (.cells (aa mA u1) 26) = v1 at *
  generalize w1.heap.size = q1 at *
  go_upto_region 3 with (first
    | (refine load_a q1 0 mA u1 rfl X1.out ?_)
    | (go_at_call 17; (with_reducible refine (BG.out _ _ R1.out).mono ?_); rintro e w2 ⟨u2, rfl, r2, g2, _⟩))
  have R2 : Hid (Rat (w2.alloc (.cells (aa mB u2) 26)) mB u2) := r2.grown (World.grownBy_alloc _ _ none)
  have X2 : Hid (∀ W, (w2.alloc (.cells (aa mB u2) 26)).grownBy W none → W.rangeAt w2.heap.size 0 (ac mB u2)) := fun W g => box_a g
  have G2 : Hid (w.grownBy (w2.alloc (.cells (aa mB u2) 26)) none) := grown_alloc (grown_tr G1.out g2) _
  clear r2 g2 BG R1 X1 G1
  generalize w2.alloc (.cells (aa mB u2) 26) = v2 at *
  generalize w2.heap.size = q2 at *
  go_upto_region 4 with (first
    | (refine load_a q2 0 mB u2 rfl (X2.out _ (grown_refl _ _)) ?_)
    | (go_at_call 19; (with_reducible refine (AV.out _ _ R2.out).mono ?_); rintro e w3 ⟨u3, rfl, r3, g3, _⟩))
  have R3 : Hid (∀ W, (w3.alloc (.cells (aa mC u3) 26)).grownBy W none → Rat W mC u3) := fun W g => r3.grown (grown_tr (World.grownBy_alloc _ _ none) g)
  have X3 : Hid (∀ W, (w3.alloc (.cells (aa mC u3) 26)).grownBy W none → W.rangeAt w3.heap.size 0 (ac mC u3)) := fun W g => box_a g
  have G3 : Hid (v2.grownBy (w3.alloc (.cells (aa mC u3) 26)) none) := grown_alloc g3 _
  clear r3 g3 AV R2
  generalize w3.alloc (.cells (aa mC u3) 26) = v3 at *
  generalize w3.heap.size = q3 at *
  go_upto_region 5 with (first
    | (refine load_a q3 0 mC u3 rfl (X3.out _ (grown_refl _ _)) ?_)
    | (go_at_call 10; (with_reducible refine (FD.out _ _ (R3.out _ (grown_refl _ _))).mono ?_); rintro e w4 ⟨rfl, g4⟩))
  have X4 : Hid (∀ W, (w4.alloc (.cells (sa s22) 29)).grownBy W none → W.rangeAt w4.heap.size 0 (sc s22)) := fun W g => (box_s g).1
  have G4 : Hid (v3.grownBy (w4.alloc (.cells (sa s22) 29)) none) := grown_alloc g4 _
  clear g4 FD
  generalize w4.alloc (.cells (sa s22) 29) = v4 at *
  generalize w4.heap.size = q4 at *
  go_upto_region 6 with (first
    | (refine load_a q3 0 mC u3 rfl (X3.out _ G4.out) ?_)
    | (go_at_call 19; (with_reducible refine (AW.out _ _ (R3.out _ G4.out)).mono ?_); rintro e w5 ⟨u5, rfl, r5, g5, _⟩))
  have G5 : Hid (v4.grownBy (w5.alloc (.cells (aa (advM mC 1) u5) 26)) none) := grown_alloc g5 _
  clear r5 g5 AW
  generalize w5.alloc (.cells (aa (advM mC 1) u5) 26) = v5 at *
  have c8 : v5.cell? ⟨q2, 8, none⟩ = some (.int .i64 1) := (cells_a (X2.out v5 (grown_tr G3.out (grown_tr G4.out G5.out)))).2.2.2.2.2.2.2.2.1
  have d4 : v5.cell? ⟨q4, 4, none⟩ = some (.int .i64 2) := X4.out v5 G5.out 4 _ rfl
  have d3 : v5.cell? ⟨q4, 3, none⟩ = some (.int .i64 2) := X4.out v5 G5.out 3 _ rfl
  go_wp2_with fail
  go_ret
  exact ⟨rfl, grown_tr G2.out (grown_tr G3.out (grown_tr G4.out G5.out))⟩
end Go.Proofs.Ytlolhdijadhklaa
