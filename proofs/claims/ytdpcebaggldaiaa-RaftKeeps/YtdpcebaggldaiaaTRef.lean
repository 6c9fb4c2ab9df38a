/- The reference's Entries, Same: of like logs. -/
import Derived.Test.YtdpcebaggldaiaaTCheck
namespace Go.Proofs.Ytdpcebaggldaiaa
open Go.RowKit Trl
set_option linter.unusedVariables false
set_option maxRecDepth 10000

set_option maxRecDepth 100000 in
set_option maxHeartbeats 1600000 in
theorem entries_same (v u : Value) (l : List En) (w : World) (h : Sl w v l) (hu : Sl w u l) :
    Calls Try.prog 40 #[v, u] w fun e w' => e = .returned (.bool true) ∧ w.grownBy w' none := by
  obtain ⟨ad, c, hv, hlc, hc, _⟩ := id h
  subst hv
  obtain ⟨aq, cq, hv, hmc, hcq, _⟩ := id hu
  subst hv
  obtain ⟨N, hN⟩ : ∃ N, l.length = N := ⟨_, rfl⟩
  have NL : Hid (l.length = N) := hN
  rw [hN] at h hlc hu hmc ⊢
  have H : Hid (Sl w (.slice ad N c) l) := h
  have HU : Hid (Sl w (.slice aq N cq) l) := hu
  clear h hN hu
  go_enter Try.func40, Try.ntmps40
  go_wp2_with fail
  go_loopw [5] (fun i wr => ∃ (j : Nat), j ≤ N ∧ i = .int .i64 (j : Int) ∧ Hid (w.grownBy wr none)) (fun i _ => N - (intOf i).toNat)
  case atStart => exact ⟨0, by omega, rfl, grown_refl _ _⟩
  case round =>
    obtain ⟨j, hj, rfl, G⟩ := hrel
    by_cases hlt : j < N
    · obtain ⟨x, hx⟩ : ∃ y, l[j]? = some y := ⟨_, List.getElem?_eq_getElem (by rw [NL.out]; exact hlt)⟩
      obtain ⟨g, o, rfl, x0, x1⟩ := at_e (H.out.grown G.out) hx
      obtain ⟨g2, o2, rfl, y0, y1⟩ := at_e (HU.out.grown G.out) hx
      obtain ⟨t, s⟩ := x
      clear hx
      go_wp2_with fail
      go_quiet (fail)
      go_wp2_with fail
      go_roundw
      case rel => exact ⟨j + 1, by omega, by go_num, grown_drewN G.out _⟩
      case measure => simp [intOf]; omega
    · go_wp2_with fail
      go_ret
      exact ⟨rfl, G.out⟩
set_option maxRecDepth 100000 in
theorem same_same (b k : Int) (v u : Value) (l : List En) (w : World) (h : Sl w v l) (hu : Sl w u l) :
    Calls Try.prog 18 #[tv b k v, tv b k u] w fun e w' => e = .returned (.bool true) ∧ w.grownBy w' none := by
  have EN : Hid (∀ W, w.grownBy W none → _) := fun W g => entries_same v u l W (h.grown g) (hu.grown g)
  obtain ⟨ad, c, hv, _, _, _⟩ := id h
  subst hv
  obtain ⟨aq, cq, hv, _, _, _⟩ := id hu
  subst hv
  clear h hu
  generalize l.length = N at *
  have GA : ∀ o1 o2, w.grownBy ((w.alloc o1).alloc o2) none := fun o1 o2 => grown_tr (World.grownBy_alloc w o1 none) (World.grownBy_alloc _ o2 none)
  go_enter Try.func18, Try.ntmps18
  go_wp2_with (go_at_call 40; (with_reducible refine (EN.out _ (GA _ _)).mono ?_); rintro e w1 ⟨rfl, g1⟩)
  go_ret
  exact ⟨rfl, grown_tr (GA _ _) g1⟩
end Go.Proofs.Ytdpcebaggldaiaa
