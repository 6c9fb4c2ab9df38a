/- Two books are joined as the document says; in either order they say the same: the statement's walk. -/
import Derived.Test.YtdekeibnehoeaaaSAwake
import Derived.Test.YtdekeibnehoeaaaSRef
import Derived.Test.YtdekeibnehoeaaaSSame
import Derived.Test.YtdekeibnehoeaaaSJoin
namespace Go.Proofs.Ytdekeibnehoeaaa
open Go.RowKit Sea
set_option linter.unusedVariables false

theorem Bk.len {w : World} {u : S3} {Y : List (Sn × S3)} (h : Bk w (.slice u.a u.n u.c) Y) : u.n = Y.length := by
  obtain ⟨ad, c, e⟩ := h.form
  injection e
namespace seatJoins
set_option maxRecDepth 100000 in
set_option maxHeartbeats 6400000 in
theorem walk (w : World) (v0 : Value) (o0 : ∃ X : List (Sn × S3), Bk w v0 X ∧ X.length ≤ 9223372036854775807) (v1 : Value) (o1 : ∃ X : List (Sn × S3), Bk w v1 X ∧ X.length ≤ 9223372036854775807) :
    Calls Try.prog 4 #[v0, v1] w fun e w' => e = .returned (.bool true) ∧ Below w.heap.size w w' := by
  obtain ⟨A, hA, hla⟩ := o0
  obtain ⟨B, hB, hlb⟩ := o1
  have AW : Hid (∀ W, _) := fun W => awake_any W
  have JA : Hid (∀ W, w.grownBy W none → _) := fun W g => Join_any v0 v1 A B W (hA.grown g) (hB.grown g) hla hlb
  have JB : Hid (∀ W, w.grownBy W none → _) := fun W g => rJoin_any v0 v1 A B W (hA.grown g) (hB.grown g) hla hlb
  have BS := Books_same
  by_cases hc : chk (A.map (·.1)) = true ∧ chk (B.map (·.1)) = true
  · have e1 : joinE (A.map (·.1)) (B.map (·.1)) = 0 := by unfold joinE; rw [if_pos hc]
    have e2 : joinL (A.map (·.1)) (B.map (·.1)) = mg (A.map (·.1)) (B.map (·.1)) := by unfold joinL; rw [if_pos hc]
    have e3 : joinE (B.map (·.1)) (A.map (·.1)) = 0 := by unfold joinE; rw [if_pos ⟨hc.2, hc.1⟩]
    have e4 : joinL (B.map (·.1)) (A.map (·.1)) = mg (B.map (·.1)) (A.map (·.1)) := by unfold joinL; rw [if_pos ⟨hc.2, hc.1⟩]
    have e5 : joinE (A.map (·.1)) (A.map (·.1)) = 0 := by unfold joinE; rw [if_pos ⟨hc.1, hc.1⟩]
    have e6 : joinL (A.map (·.1)) (A.map (·.1)) = A.map (·.1) := by unfold joinL; rw [if_pos ⟨hc.1, hc.1⟩, mg_self]
    have JC : Hid (∀ W, w.grownBy W none → _) := fun W g => Join_any v1 v0 B A W (hB.grown g) (hA.grown g) hlb hla
    have JD : Hid (∀ W, w.grownBy W none → _) := fun W g => Join_any v0 v0 A A W (hA.grown g) (hA.grown g) hla hla
    rw [e1, e2] at JA JB
    rw [e3, e4] at JC
    rw [e5, e6] at JD
    have HA : Hid (∀ W, w.grownBy W none → Bk W v0 A) := fun W g => hA.grown g
    have hck := chk_mg hc.1 hc.2
    have hsw := mg_swap (A.map (·.1)) (B.map (·.1))
    have hln := chk_len hck
    have CK := check_any
    obtain ⟨ad, cp, hv⟩ := hA.form
    obtain ⟨bd, bp, hv2⟩ := hB.form
    subst hv hv2
    have HCK : Hid (chk (mg (A.map (·.1)) (B.map (·.1))) = true) := hck
    have HSW : Hid ((mg (A.map (·.1)) (B.map (·.1))).map (fun s => (s.cl, s.sq)) = (mg (B.map (·.1)) (A.map (·.1))).map fun s => (s.cl, s.sq)) := hsw
    have HLN : Hid ((mg (A.map (·.1)) (B.map (·.1))).length ≤ 64) := hln
    have HLA : Hid (A.length ≤ 9223372036854775807) := hla
    clear hA hB e1 e2 e3 e4 e5 e6 hc hck hsw hln
    generalize mg (A.map (·.1)) (B.map (·.1)) = L at *
    generalize mg (B.map (·.1)) (A.map (·.1)) = M at *
    generalize hN : A.length = N at *
    have NL : Hid (A.length = N) := hN
    clear hN
    generalize B.length = K at *
    have t1 : True := trivial
    have t2 : True := trivial
    go_enter Try.func4, Try.ntmps4
    go_upto_region 5 with (first
      | (go_at_call 7; (with_reducible refine (AW.out _).mono ?_); rintro e w1 ⟨rfl, g1⟩)
      | (go_at_call 16; (with_reducible refine (JA.out _ g1).mono ?_); rintro e w2 ⟨u2, rfl, Y, b2, e2, g2⟩)
      | (go_at_call 17; (with_reducible refine (JB.out _ (grown_tr g1 g2)).mono ?_); rintro e w3 ⟨u3, rfl, Z, b3, e3, g3⟩))
    have hY : Hid (Y.length ≤ 64) := by have h1 := HLN.out; have h2 := congrArg List.length e2; rw [List.length_map] at h2; show _ ≤ _; omega
    have B2 : Hid (∀ W, w2.grownBy W none → Bk W (.slice u2.a u2.n u2.c) Y) := fun W g => b2.grown g
    have E2 : Hid (Y.map (·.1) = L) := e2
    have SB : Hid (∀ W, w3.grownBy W none → _) := fun W g => BS _ _ Y Z W (b2.grown (grown_tr g3 g)) (b3.grown g) (e2.trans e3.symm) (by have := hY.out; omega)
    have H3 : Hid (w.grownBy w3 none) := grown_tr g1 (grown_tr g2 g3)
    have H23 : Hid (w2.grownBy w3 none) := g3
    clear b2 b3 e2 e3 g1 g2 g3
    go_upto_region 11 with (first
      | (go_at_call 15; (with_reducible refine (SB.out _ (grown_refl _ _)).mono ?_); rintro e w4 ⟨rfl, g4⟩)
      | (go_at_call 16; have _t := t1; (with_reducible refine (JC.out _ (grown_tr H3.out g4)).mono ?_); rintro e w5 ⟨u5, rfl, Z5, b5, e5, g5⟩; clear t1)
      | (go_at_call 16; (with_reducible refine (JD.out _ (grown_tr H3.out (grown_tr g4 g5))).mono ?_); rintro e w6 ⟨u6, rfl, Z6, b6, e6, g6⟩))
    have hl5 : Hid (Z5.length = Y.length) := by
      have h1 := congrArg List.length HSW.out
      rw [List.length_map, List.length_map, ← e5, ← E2.out, List.length_map, List.length_map] at h1
      exact h1.symm
    have hu2 := (B2.out w3 H23.out).len
    have hu5 := b5.len
    have SQ : Hid (Y.map (fun x => (x.1.cl, x.1.sq)) = Z5.map fun x => (x.1.cl, x.1.sq)) := by
      have h1 := HSW.out
      rw [← e5, ← E2.out, List.map_map, List.map_map] at h1
      exact h1
    have SC : Hid (∀ W, w6.grownBy W none → _) := fun W g => BS _ _ Z6 A W (b6.grown g) (HA.out W (grown_tr H3.out (grown_tr g4 (grown_tr g5 (grown_tr g6 g))))) e6 (by have h1 := HLA.out; have h2 := congrArg List.length e6; simp only [List.length_map] at h2; rw [h2, NL.out]; exact h1)
    have CC : Hid (∀ W, w3.grownBy W none → Calls Try.prog 12 #[.slice u2.a u2.n u2.c] W fun e w' => e = .returned (.bool true) ∧ W.grownBy w' none) := fun W g => by
      have := CK (.slice u2.a u2.n u2.c) Y W (B2.out W (grown_tr H23.out g)).1 (by have := hY.out; omega)
      rwa [E2.out, HCK.out] at this
    have B5 : Hid (∀ W, w6.grownBy W none → Bk W (.slice u5.a u5.n u5.c) Z5) := fun W g => b5.grown (grown_tr g6 g)
    have H6 : Hid (w3.grownBy w6 none) := grown_tr g4 (grown_tr g5 g6)
    rw [hl5.out] at hu5
    have UN : Hid (u5.n = Y.length ∧ u2.n = Y.length) := (⟨hu5, hu2⟩ : _ ∧ _)
    obtain ⟨ua2, un2, uc2⟩ := u2
    obtain ⟨ua5, un5, uc5⟩ := u5
    simp only at hu2 hu5 B2 B5 CC SC UN ⊢
    obtain rfl : un5 = un2 := by omega
    have UL : Hid (un5 = Y.length) := hu2
    have h64 : un5 ≤ 64 := by have := hY.out; omega
    clear b5 b6 e5 e6 g4 g5 g6 hu2 hu5 BS CK UN
    go_wp2_with (first
      | (go_at_call 15; (with_reducible refine (SC.out _ (grown_refl _ _)).mono ?_); rintro e w7 ⟨rfl, g7⟩)
      | (go_at_call 12; (with_reducible refine (CC.out _ (grown_tr H6.out g7)).mono ?_); rintro e w8 ⟨rfl, g8⟩))
    have H8 : Hid (w6.grownBy w8 none) := grown_tr g7 g8
    clear g7 g8
    go_loopw [13] (fun i wr => ∃ (j : Nat), j ≤ un5 ∧ i = .int .i64 (j : Int) ∧ Hid (w6.grownBy wr none)) (fun i _ => un5 - (intOf i).toNat)
    case atStart => exact ⟨0, by omega, rfl, H8⟩
    case round =>
      obtain ⟨j, hj, rfl, G⟩ := hrel
      by_cases hlt : j < un5
      · obtain ⟨⟨y, yu⟩, hy⟩ : ∃ y, Y[j]? = some y := ⟨_, List.getElem?_eq_getElem (by rw [← UL.out]; exact hlt)⟩
        obtain ⟨⟨z, zu⟩, hz⟩ : ∃ y, Z5[j]? = some y := ⟨_, List.getElem?_eq_getElem (by rw [hl5.out, ← UL.out]; exact hlt)⟩
        have hq : (y.cl, y.sq) = (z.cl, z.sq) := by
          have h1 : (Y.map (fun x => (x.1.cl, x.1.sq)))[j]? = some (y.cl, y.sq) := by simp [hy]
          rw [SQ.out] at h1
          have h2 : (Z5.map (fun x => (x.1.cl, x.1.sq)))[j]? = some (z.cl, z.sq) := by simp [hz]
          rw [h2] at h1
          injection h1 with h1
          exact h1.symm
        simp only [Prod.mk.injEq] at hq
        obtain ⟨g1, o1, a1, r1⟩ := range_at (B2.out wr (grown_tr H23.out (grown_tr H6.out G.out))).1 hy
        obtain ⟨g2, o2, a2, r2⟩ := range_at (B5.out wr G.out).1 hz
        have p0 := (range_cells r1).1
        have p1 := (range_cells r1).2.1
        have q0 := (range_cells r2).1
        have q1 := (range_cells r2).2.1
        rw [← hq.1] at q0
        rw [← hq.2] at q1
        have d1 : (y.cl != y.cl) = false := by simp
        have d2 : (y.sq != y.sq) = false := by simp
        subst a1 a2
        clear hy hz hq r1 r2
        go_wp2_with fail
        go_quiet (fail)
        go_wp2_with fail
        go_roundw
        case rel => exact ⟨j + 1, by omega, by go_num, grown_drewN G.out _⟩
        case measure => simp [intOf]; omega
      · go_wp2_with fail
        go_ret
        exact ⟨rfl, grown_below (grown_tr H3.out (grown_tr H6.out G.out))⟩
  · have e1 : joinE (A.map (·.1)) (B.map (·.1)) = 4 := by unfold joinE; rw [if_neg hc]
    have e2 : joinL (A.map (·.1)) (B.map (·.1)) = [] := by unfold joinL; rw [if_neg hc]
    rw [e1, e2] at JA JB
    obtain ⟨ad, cp, hv⟩ := hA.form
    obtain ⟨bd, bp, hv2⟩ := hB.form
    subst hv hv2
    clear hA hB e1 e2 hc
    generalize A.length = N at *
    generalize B.length = K at *
    go_enter Try.func4, Try.ntmps4
    go_upto_region 5 with (first
      | (go_at_call 7; (with_reducible refine (AW.out _).mono ?_); rintro e w1 ⟨rfl, g1⟩)
      | (go_at_call 16; (with_reducible refine (JA.out _ g1).mono ?_); rintro e w2 ⟨u2, rfl, Y, b2, e2, g2⟩)
      | (go_at_call 17; (with_reducible refine (JB.out _ (grown_tr g1 g2)).mono ?_); rintro e w3 ⟨u3, rfl, Z, b3, e3, g3⟩))
    obtain rfl : Y = [] := List.map_eq_nil_iff.1 e2
    have SB : Hid (∀ W, w3.grownBy W none → _) := fun W g => BS _ _ [] Z W (b2.grown (grown_tr g3 g)) (b3.grown g) (e2.trans e3.symm) (by simp)
    have hu2 := b2.len
    obtain ⟨ua2, un2, uc2⟩ := u2
    simp only [List.length_nil] at hu2 SB ⊢
    subst hu2
    clear b2 b3 e2 e3 BS
    go_wp2_with (go_at_call 15; (with_reducible refine (SB.out _ (grown_refl _ _)).mono ?_); rintro e w4 ⟨rfl, g4⟩)
    go_ret
    exact ⟨rfl, grown_below (grown_tr g1 (grown_tr g2 (grown_tr g3 g4)))⟩
end seatJoins
end Go.Proofs.Ytdekeibnehoeaaa
