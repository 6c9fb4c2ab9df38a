/- agreeing. -/
import Derived.Test.YtdpcebaggldaiaaTCheck
namespace Go.Proofs.Ytdpcebaggldaiaa
open Go.RowKit Trl
set_option linter.unusedVariables false
set_option maxRecDepth 10000

/-- So far they agree. -/
def Ag (l m : List En) (j : Nat) : Prop := ∀ i, i < j → ∃ x y, l[i]? = some x ∧ m[i]? = some y ∧ x.1 = y.1
theorem Ag.more {l m : List En} {j : Nat} (h : Ag l m j) {x y : En} (hx : l[j]? = some x) (hy : m[j]? = some y) (e : x.1 = y.1) : Ag l m (j + 1) := fun i hi => by
  by_cases c : i < j
  · exact h i c
  · obtain rfl : i = j := by omega
    exact ⟨x, y, hx, hy, e⟩
set_option maxRecDepth 100000 in
set_option maxHeartbeats 800000 in
theorem agreeing_any (v u : Value) (l m : List En) (w : World) (h : Sl w v l) (hu : Sl w u m) :
    Calls Try.prog 76 #[v, u] w fun e w' => e = .returned (.int .i64 (agr l m : Nat)) ∧ w.grownBy w' none := by
  obtain ⟨ad, c, hv, hlc, hc, _⟩ := id h
  subst hv
  obtain ⟨aq, cq, hv, hmc, hcq, _⟩ := id hu
  subst hv
  obtain ⟨N, hN⟩ : ∃ N, l.length = N := ⟨_, rfl⟩
  have NL : Hid (l.length = N) := hN
  obtain ⟨M, hM⟩ : ∃ M, m.length = M := ⟨_, rfl⟩
  have ML : Hid (m.length = M) := hM
  rw [hN] at h hlc ⊢
  rw [hM] at hu hmc ⊢
  have H : Hid (Sl w (.slice ad N c) l) := h
  have HU : Hid (Sl w (.slice aq M cq) m) := hu
  clear h hN hu hM
  go_enter Try.func76, Try.ntmps76
  go_wp2_with fail
  go_loopw [5] (fun i wr => ∃ (j : Nat), j ≤ N ∧ j ≤ M ∧ i = .int .i64 (j : Int) ∧ Hid (Ag l m j) ∧ Hid (w.grownBy wr none)) (fun i _ => N - (intOf i).toNat)
  case atStart => exact ⟨0, by omega, by omega, rfl, (fun i hi => by omega : Ag l m 0), grown_refl _ _⟩
  case round =>
    obtain ⟨j, hj, hjM, rfl, I, G⟩ := hrel
    by_cases hlt : j < N
    · by_cases hlm : j < M
      · obtain ⟨x, hx⟩ : ∃ y, l[j]? = some y := ⟨_, List.getElem?_eq_getElem (by rw [NL.out]; exact hlt)⟩
        obtain ⟨y, hy⟩ : ∃ y, m[j]? = some y := ⟨_, List.getElem?_eq_getElem (by rw [ML.out]; exact hlm)⟩
        obtain ⟨g, o, rfl, x0, _⟩ := at_e (H.out.grown G.out) hx
        obtain ⟨g2, o2, rfl, y0, _⟩ := at_e (HU.out.grown G.out) hy
        by_cases e : x.1 = y.1
        · have I2 : Hid (Ag l m (j + 1)) := I.out.more hx hy e
          have e' : (x.1 == y.1) = true := by simpa using e
          clear hx hy I
          go_wp2_with fail
          go_quiet (fail)
          go_wp2_with fail
          go_roundw
          case rel => exact ⟨j + 1, by omega, by omega, by go_num, I2, grown_drewN G.out _⟩
          case measure => simp [intOf]; omega
        · have E : Hid (agr l m = j) := agr_is j I.out (.inr (.inr ⟨x, y, hx, hy, e⟩))
          have e' : (x.1 == y.1) = false := by simpa using e
          clear hx hy I
          go_wp2_with fail
          go_quiet (fail)
          go_wp2_with fail
          go_ret
          exact ⟨by rw [E.out]; rfl, grown_drewN G.out _⟩
      · have E : Hid (agr l m = j) := agr_is j I.out (.inr (.inl (by rw [ML.out]; omega)))
        clear I
        go_wp2_with fail
        go_quiet (fail)
        go_wp2_with fail
        go_ret
        exact ⟨by rw [E.out]; rfl, grown_drewN G.out _⟩
    · have E : Hid (agr l m = j) := agr_is j I.out (.inl (by rw [NL.out]; omega))
      clear I
      go_wp2_with fail
      go_quiet (fail)
      go_wp2_with fail
      go_ret
      exact ⟨by rw [E.out]; rfl, grown_drewN G.out _⟩
end Go.Proofs.Ytdpcebaggldaiaa
