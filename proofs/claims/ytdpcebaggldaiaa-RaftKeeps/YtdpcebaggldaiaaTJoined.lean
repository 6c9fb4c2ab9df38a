/- joined. -/
import Derived.Test.YtdpcebaggldaiaaTJoin
namespace Go.Proofs.Ytdpcebaggldaiaa
open Go.RowKit Trl
set_option linter.unusedVariables false
set_option maxRecDepth 10000

set_option maxRecDepth 100000 in
set_option maxHeartbeats 3200000 in
theorem joined_any (b k : Int) (x u v : Value) (l m : List En) (w : World) (hx : ∃ a n c, x = .slice a n c) (hu : Sl w u l) (hv : Sl w v m) (hn : (l.length + m.length) * 24 ≤ 281474976710656) :
    Calls Try.prog 67 #[tv b k x, u, v] w fun e w' => ∃ a n c, e = .returned (tv b k (.slice a n c)) ∧ eE.Own w' w.heap.size (.slice a n c) (l ++ m) ∧ w.grownBy w' none := by
  obtain ⟨ax, nx, cx, rfl⟩ := hx
  have CC : Hid (∀ (W : World) (q : Nat), w.grownBy W none → Bx W q u v → Calls Try.prog 75 #[.slice (some ⟨q, 0, none⟩) 2 2] W fun e w' => ∃ a n c, e = .returned (.slice a n c) ∧ eE.Own w' W.heap.size (.slice a n c) (l ++ m) ∧ W.grownBy w' none) := fun W q g hb => concat_any q u v l m W hb (hu.grown g) (hv.grown g) hn
  obtain ⟨ad, c, hv1, hlc, hc, _⟩ := id hu
  subst hv1
  obtain ⟨aq, cq, hv1, hmc, hcq, _⟩ := id hv
  subst hv1
  generalize l.length = N at *
  generalize m.length = M at *
  clear hu hv
  go_enter Try.func67, Try.ntmps67
  go_wp2_with fail
  go_region_with (go_at_call 75; (with_reducible refine (CC.out _ _ ?hg ?hb).mono ?_); (case hg => repeat (first | (with_reducible exact grown_refl _ _) | (with_reducible refine grown_drew ?_) | (with_reducible refine grown_alloc ?_ _))); (case hb => first | exact (bx_new (by simp)).drew | exact bx_new (by simp)); rintro e w1 ⟨a1, n1, c1, rfl, hO1, hg1⟩; have hg2 := grown_tr (grown_drew (World.grownBy_alloc ((w.alloc (.cells #[.int .i64 b, .int .i64 k, .slice ax nx cx] 25)).alloc (.cells #[.int .i64 0, .int .i64 0, .slice none 0 0] 25)) _ none)) hg1; obtain ⟨⟨q0, q1, q2⟩, ⟨z0, z1, z2⟩, zf, zs⟩ := two_kept hg2; have f0 := zf 0; have f1 := zf 1; have f2 := zf 2)
  all_goals
    clear hc hcq hlc hmc hn CC hg1
    go_wp2_with fail
    obtain ⟨s0, s1, s2, sg⟩ := put3 (a := .int .i64 b) (b := .int .i64 k) (c := .slice a1 n1 c1) z0 z1 z2
    refine fin1 rfl rfl (range3 s0 s1 s2) rfl ⟨a1, n1, c1, rfl, (hO1.low (by simp; omega)).but sg (fun k hk e => ?_), grown_more (grown_tr (grown_tr (World.grownBy_alloc w _ none) (World.grownBy_alloc _ _ none)) hg2) sg (fun k e => .inr ?_)⟩
    · have := (hO1.lt k hk).1
      injection e with e
      simp at this
      omega
    · injection e with e
      omega
end Go.Proofs.Ytdpcebaggldaiaa
