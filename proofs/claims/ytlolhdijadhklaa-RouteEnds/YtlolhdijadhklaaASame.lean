/- The reference's Same, of like maps. -/
import Derived.Test.YtlolhdijadhklaaABox
import Derived.Test.YtlolhdijadhklaaASpans
namespace Go.Proofs.Ytlolhdijadhklaa
open Go.RowKit Atl
set_option linter.unusedVariables false
set_option maxRecDepth 10000

set_option maxRecDepth 100000 in
set_option maxHeartbeats 3200000 in
theorem same_any (a : Am) (u v : S3) (w : World) (h : Rat w a u) (k : Rat w a v) : Calls Try.prog 16 #[av a u, av a v] w fun e w' => e = .returned (.bool true) ∧ w.grownBy w' none := by
  obtain ⟨W0, hW0⟩ : ∃ W0, W0 = (w.alloc (.cells (aa a u) 26)).alloc (.cells (aa a v) 26) := ⟨_, rfl⟩
  obtain ⟨g0, sz0, r0, k0', k0⟩ := two_boxes w a u (aa a v) _ _ W0 hW0
  have G0 : Hid (w.grownBy W0 none) := g0
  have CA : Hid (∀ W, W0.grownBy W none → W.rangeAt w.heap.size 0 (ac a u)) := r0
  have CB : Hid (∀ W, W0.grownBy W none → W.rangeAt (w.heap.size + 1) 0 (ac a v)) := fun W g => (k0 W g).1
  have HW0 : Hid (W0 = _) := hW0
  obtain ⟨hR, hn, hb⟩ := h
  obtain ⟨kR, kn, kb⟩ := k
  obtain ⟨ua, un, uc⟩ := u
  obtain ⟨va, vn, vc⟩ := v
  simp only at hn kn hR kR CA CB HW0 ⊢
  obtain ⟨N, hN⟩ : ∃ N, a.l.length = N := ⟨_, rfl⟩
  have NL : Hid (a.l.length = N) := hN
  rw [hN] at hn kn hb
  subst hn
  have kn' := kn
  subst kn'
  have RU : Hid (∀ W, W0.grownBy W none → eS.Rx W (.slice ua vn uc) a.l) := fun W g => hR.grown (grown_tr G0.out g)
  have RV : Hid (∀ W, W0.grownBy W none → eS.Rx W (.slice va vn vc) a.l) := fun W g => kR.grown (grown_tr G0.out g)
  have un16 : (vn : Int) ≤ 9223372036854775807 := by omega
  have NP : ∀ W, (binOp .neq 24 (pv a.p) (pv a.p)).run Try.prog W = .ok (.bool false) W := fun W => by
    have := neq_plan a.p a.p W
    rwa [peq_self] at this
  have NS : Hid (∀ (s : Sp) W, (binOp .neq 29 (sv s) (sv s)).run Try.prog W = .ok (.bool false) W) := fun s W => by
    have := neq_span s s W
    rwa [seq_self] at this
  obtain ⟨a0, a1, a2, a3, a4, a5, a6, a7, a8, a9, a10⟩ := cells_a (CA.out W0 (grown_refl _ _))
  obtain ⟨b0, b1, b2, b3, b4, b5, b6, b7, b8, b9, b10⟩ := cells_a (CB.out W0 (grown_refl _ _))
  have PA : Hid (W0.rangeAt w.heap.size 3 (pc a.p)) := plan_in (CA.out W0 (grown_refl _ _))
  have PB : Hid (W0.rangeAt (w.heap.size + 1) 3 (pc a.p)) := plan_in (CB.out W0 (grown_refl _ _))
  have d1 : (a.g != a.g) = false := by simp
  have d2 : (a.la != a.la) = false := by simp
  clear a3 a4 a5 a6 a7 a8 a9 a10 b3 b4 b5 b6 b7 b8 b9 b10 g0 sz0 r0 k0' k0 hW0 hR kR hb kb hN
  go_enter Try.func16, Try.ntmps16
  go_upto_region 1 with fail
  rw [← HW0.out]
  go_upto_region 4 with (first | (refine load_pg w.heap.size 3 a.p (by rfl) rfl PA.out ?_) | (refine load_pg (w.heap.size + 1) 3 a.p (by rfl) rfl PB.out ?_))
  clear NP a0 a1 b0 b1 d1 d2
  have G1 : Hid (W0.grownBy W0 none) := grown_refl _ _
  go_loopw [5] (fun i wr => ∃ j : Nat, j ≤ vn ∧ i = .int .i64 (j : Int) ∧ Hid (W0.grownBy wr none)) (fun i _ => vn - (intOf i).toNat)
  case atStart => exact ⟨0, by omega, rfl, G1⟩
  case round =>
    clear a2 b2 G1
    obtain ⟨j, hj, rfl, G⟩ := hrel
    have a2 := (cells_a (CA.out wr G.out)).2.2.1
    have b2 := (cells_a (CB.out wr G.out)).2.2.1
    by_cases hlt : j < vn
    · obtain ⟨s, hy⟩ : ∃ y, a.l[j]? = some y := ⟨_, List.getElem?_eq_getElem (by rw [NL.out]; exact hlt)⟩
      obtain ⟨g1, o1, e1, r1⟩ := range_at (RU.out wr G.out) hy
      obtain ⟨g2, o2, e2, r2⟩ := range_at (RV.out wr G.out) hy
      obtain ⟨p0, p1, p2, p3, p4⟩ := cells_s r1
      obtain ⟨q0, q1, q2, q3, q4⟩ := cells_s r2
      have NQ := NS.out s
      subst e1 e2
      clear hy r1 r2
      go_wp2_with fail
      go_quiet (fail)
      go_wp2_with fail
      go_roundw
      case rel => exact ⟨j + 1, by omega, by go_num, grown_drewN G.out _⟩
      case measure => simp [intOf]; omega
    · go_wp2_with fail
      go_ret
      exact ⟨rfl, grown_tr G0.out G.out⟩
end Go.Proofs.Ytlolhdijadhklaa
