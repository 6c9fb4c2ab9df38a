/- Whether a way is right. -/
import Derived.Test.YtlolhdijadhklaaOBase
import Derived.Test.YtlolhdijadhklaaACheck
namespace Go.Proofs.Ytlolhdijadhklaa
open Go.RowKit Atl
set_option linter.unusedVariables false
set_option maxRecDepth 10000

/-- A way is read: its map's spans in memory, its strings short. -/
structure Rdw (w : World) (r : Wy) : Prop where
  m : Rat w r.m r.u
  z : Szm r.m
  k : r.nm.size ≤ 140737488351232
theorem Rdw.grown {w w' : World} {r : Wy} (h : Rdw w r) (g : w.grownBy w' none) : Rdw w' r := ⟨h.m.grown g, h.z, h.k⟩

set_option maxRecDepth 100000 in
set_option maxHeartbeats 1600000 in
theorem rmap_any (a : Am) (u : S3) (w : World) (h : Rat w a u) (hz : Szm a) : Calls Try.prog 63 #[av a u] w fun e w' => e = .returned (.bool (rmap a)) ∧ w.grownBy w' none := by
  have EM : Hid (∀ W, w.grownBy W none → _) := fun W g => empty_any a u W (h.grown g)
  have CK : Hid (∀ W, w.grownBy W none → _) := fun W g => check_any a u W (h.grown g) hz
  obtain ⟨W0, hW0⟩ : ∃ W0, W0 = w.alloc (.cells (aa a u) 26) := ⟨_, rfl⟩
  have G0 : Hid (w.grownBy W0 none) := by rw [hW0]; exact World.grownBy_alloc _ _ none
  have CA : Hid (∀ W, W0.grownBy W none → W.rangeAt w.heap.size 0 (ac a u)) := fun W g => by rw [hW0] at g; exact (cs_new g).1
  have HW0 : Hid (W0 = _) := hW0
  clear hW0 h hz
  unfold rmap
  generalize emp a = b1 at *
  generalize chk a = b2 at *
  cases b1
  · go_enter Try.func63, Try.ntmps63
    go_upto_region 1 with fail
    rw [← HW0.out]
    go_wp2_with (first
      | (refine ld_a rfl rfl w.heap.size 0 a u rfl (CA.out W0 (grown_refl _ _)) ?_)
      | (go_at_call 95; (with_reducible refine (EM.out _ G0.out).mono ?_); rintro e w1 ⟨rfl, g1⟩)
      | (refine ld_ag rfl rfl w.heap.size 0 a u rfl rfl (CA.out w1 g1) ?_)
      | (go_at_call 14; (with_reducible refine (CK.out _ (grown_tr G0.out g1)).mono ?_); rintro e w2 ⟨rfl, g2⟩))
    go_ret
    exact ⟨rfl, grown_tr G0.out (grown_tr g1 g2)⟩
  · go_enter Try.func63, Try.ntmps63
    go_upto_region 1 with fail
    rw [← HW0.out]
    go_wp2_with (first
      | (refine ld_a rfl rfl w.heap.size 0 a u rfl (CA.out W0 (grown_refl _ _)) ?_)
      | (go_at_call 95; (with_reducible refine (EM.out _ G0.out).mono ?_); rintro e w1 ⟨rfl, g1⟩))
    go_ret
    exact ⟨rfl, grown_tr G0.out g1⟩
set_option maxRecDepth 100000 in
set_option maxHeartbeats 3200000 in
theorem goes_any (r : Wy) (w : World) (h : Rdw w r) : Calls Try.prog 64 #[rv r] w fun e w' => e = .returned (.bool (goes r)) ∧ w.grownBy w' none := by
  have EM : Hid (∀ W, w.grownBy W none → _) := fun W g => empty_any r.m r.u W (h.m.grown g)
  have NA : Hid (∀ W, _) := fun W => name_any r.nm h.k W
  obtain ⟨W0, hW0⟩ : ∃ W0, W0 = w.alloc (.cells (ra r) 60) := ⟨_, rfl⟩
  have G0 : Hid (w.grownBy W0 none) := by rw [hW0]; exact World.grownBy_alloc _ _ none
  have CA : Hid (∀ W, W0.grownBy W none → W.rangeAt w.heap.size 0 (rc r)) := fun W g => by rw [hW0] at g; exact (cs_new g).1
  have CN : Hid (∀ W, W0.grownBy W none → W.cell? ⟨w.heap.size, 1, none⟩ = some (.string r.nm)) := fun W g => CA.out W g 1 _ rfl
  have c13 : W0.cell? ⟨w.heap.size, 13, none⟩ = some (.bool r.f) := CA.out W0 (grown_refl _ _) 13 _ rfl
  have c15 : W0.cell? ⟨w.heap.size, 15, none⟩ = some (.int .i64 r.lf) := CA.out W0 (grown_refl _ _) 15 _ rfl
  have HW0 : Hid (W0 = _) := hW0
  clear hW0 h
  unfold goes
  generalize r.f = b2 at *
  generalize emp r.m = b3 at *
  generalize named r.nm = b4 at *
  cases hb1 : decide (0 < r.lf)
  · go_enter Try.func64, Try.ntmps64
    go_upto_region 1 with fail
    rw [← HW0.out]
    go_wp2_with fail
    go_ret
    exact ⟨rfl, G0.out⟩
  · cases b2
    · cases b3
      · go_enter Try.func64, Try.ntmps64
        go_upto_region 1 with fail
        rw [← HW0.out]
        go_wp2_with (first
          | (refine ld_ag rfl rfl w.heap.size 2 r.m r.u rfl rfl (map_in (CA.out W0 (grown_refl _ _))) ?_)
          | (go_at_call 95; (with_reducible refine (EM.out _ G0.out).mono ?_); rintro e w1 ⟨rfl, g1⟩; have c1 := CN.out w1 g1)
          | (go_at_call 37; (with_reducible refine (NA.out _).mono ?_); rintro e w2 ⟨rfl, e2⟩; have e2' := e2.symm; clear e2; subst e2'))
        go_ret
        exact ⟨rfl, grown_tr G0.out g1⟩
      · go_enter Try.func64, Try.ntmps64
        go_upto_region 1 with fail
        rw [← HW0.out]
        go_wp2_with (first
          | (refine ld_ag rfl rfl w.heap.size 2 r.m r.u rfl rfl (map_in (CA.out W0 (grown_refl _ _))) ?_)
          | (go_at_call 95; (with_reducible refine (EM.out _ G0.out).mono ?_); rintro e w1 ⟨rfl, g1⟩))
        go_ret
        exact ⟨rfl, grown_tr G0.out g1⟩
    · go_enter Try.func64, Try.ntmps64
      go_upto_region 1 with fail
      rw [← HW0.out]
      go_wp2_with fail
      go_ret
      exact ⟨rfl, G0.out⟩
set_option maxRecDepth 100000 in
set_option maxHeartbeats 3200000 in
theorem ochk_any (r : Wy) (w : World) (h : Rdw w r) : Calls Try.prog 31 #[rv r] w fun e w' => e = .returned (.bool (rchk r)) ∧ w.grownBy w' none := by
  have RN : Hid (∀ W, _) := fun W => rnum_any r W
  have RM : Hid (∀ W, w.grownBy W none → _) := fun W g => rmap_any r.m r.u W (h.m.grown g) h.z
  have GO : Hid (∀ W, w.grownBy W none → _) := fun W g => goes_any r W (h.grown g)
  obtain ⟨W0, hW0⟩ : ∃ W0, W0 = w.alloc (.cells (ra r) 60) := ⟨_, rfl⟩
  have G0 : Hid (w.grownBy W0 none) := by rw [hW0]; exact World.grownBy_alloc _ _ none
  have CA : Hid (∀ W, W0.grownBy W none → W.rangeAt w.heap.size 0 (rc r)) := fun W g => by rw [hW0] at g; exact (cs_new g).1
  have CD : Hid (∀ W, W0.grownBy W none → W.cell? ⟨w.heap.size, 16, none⟩ = some (.bool r.d)) := fun W g => CA.out W g 16 _ rfl
  have HW0 : Hid (W0 = _) := hW0
  clear hW0 h
  unfold rchk
  generalize rnum r = b1 at *
  generalize rmap r.m = b2 at *
  generalize goes r = b4 at *
  cases hb3 : r.d
  all_goals
    have HB3 : Hid (r.d = _) := hb3
    clear hb3
    cases b1
    · go_enter Try.func31, Try.ntmps31
      go_upto_region 1 with fail
      rw [← HW0.out]
      go_wp2_with (first
        | (refine load_r rfl rfl w.heap.size 0 r rfl (CA.out W0 (grown_refl _ _)) ?_)
        | (go_at_call 62; (with_reducible refine (RN.out _).mono ?_); rintro e w1 ⟨rfl, g1⟩))
      go_ret
      exact ⟨rfl, grown_tr G0.out g1⟩
    · cases b2
      · go_enter Try.func31, Try.ntmps31
        go_upto_region 1 with fail
        rw [← HW0.out]
        go_wp2_with (first
          | (refine load_r rfl rfl w.heap.size 0 r rfl (CA.out W0 (grown_refl _ _)) ?_)
          | (go_at_call 62; (with_reducible refine (RN.out _).mono ?_); rintro e w1 ⟨rfl, g1⟩)
          | (refine ld_ag rfl rfl w.heap.size 2 r.m r.u rfl rfl (map_in (CA.out w1 g1)) ?_)
          | (go_at_call 63; (with_reducible refine (RM.out _ (grown_tr G0.out g1)).mono ?_); rintro e w2 ⟨rfl, g2⟩))
        go_ret
        exact ⟨rfl, grown_tr G0.out (grown_tr g1 g2)⟩
      · go_enter Try.func31, Try.ntmps31
        go_upto_region 1 with fail
        rw [← HW0.out]
        go_wp2_with (first
          | (refine load_r rfl rfl w.heap.size 0 r rfl (CA.out W0 (grown_refl _ _)) ?_)
          | (go_at_call 62; (with_reducible refine (RN.out _).mono ?_); rintro e w1 ⟨rfl, g1⟩)
          | (refine ld_ag rfl rfl w.heap.size 2 r.m r.u rfl rfl (map_in (CA.out w1 g1)) ?_)
          | (go_at_call 63; (with_reducible refine (RM.out _ (grown_tr G0.out g1)).mono ?_); rintro e w2 ⟨rfl, g2⟩; have c16 := CD.out w2 (grown_tr g1 g2); rw [HB3.out] at c16)
          | (refine load_rg rfl rfl w.heap.size 0 r rfl rfl (CA.out w2 (grown_tr g1 g2)) ?_)
          | (go_at_call 64; (with_reducible refine (GO.out _ (grown_tr G0.out (grown_tr g1 g2))).mono ?_); rintro e w3 ⟨rfl, g3⟩))
        go_ret
        first
          | exact ⟨rfl, grown_tr G0.out (grown_tr g1 (grown_tr g2 g3))⟩
          | exact ⟨rfl, grown_tr G0.out (grown_tr g1 g2)⟩
set_option maxRecDepth 100000 in
set_option maxHeartbeats 3200000 in
theorem way_any (r : Wy) (w : World) (h : Rdw w r) : Calls Try.prog 65 #[rv r] w fun e w' => e = .returned (.bool (way r)) ∧ w.grownBy w' none := by
  have CK : Hid (∀ W, w.grownBy W none → _) := fun W g => ochk_any r W (h.grown g)
  obtain ⟨W0, hW0⟩ : ∃ W0, W0 = w.alloc (.cells (ra r) 60) := ⟨_, rfl⟩
  have G0 : Hid (w.grownBy W0 none) := by rw [hW0]; exact World.grownBy_alloc _ _ none
  have CA : Hid (∀ W, W0.grownBy W none → W.rangeAt w.heap.size 0 (rc r)) := fun W g => by rw [hW0] at g; exact (cs_new g).1
  have CD : Hid (∀ W, W0.grownBy W none → W.cell? ⟨w.heap.size, 16, none⟩ = some (.bool r.d)) := fun W g => CA.out W g 16 _ rfl
  have HW0 : Hid (W0 = _) := hW0
  clear hW0 h
  unfold way
  generalize rchk r = b1 at *
  cases b1
  all_goals
    go_enter Try.func65, Try.ntmps65
    go_upto_region 1 with fail
    rw [← HW0.out]
    go_wp2_with (first
      | (refine load_r rfl rfl w.heap.size 0 r rfl (CA.out W0 (grown_refl _ _)) ?_)
      | (go_at_call 31; (with_reducible refine (CK.out _ G0.out).mono ?_); rintro e w1 ⟨rfl, g1⟩; have c16 := CD.out w1 g1))
    go_ret
    exact ⟨rfl, grown_tr G0.out g1⟩
end Go.Proofs.Ytlolhdijadhklaa
