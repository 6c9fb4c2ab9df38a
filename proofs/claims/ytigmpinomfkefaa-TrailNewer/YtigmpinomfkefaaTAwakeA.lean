/- two, Cut. -/
import Derived.Test.YtigmpinomfkefaaTPut
namespace Go.Proofs.Ytigmpinomfkefaa
open Go.RowKit Trl
set_option linter.unusedVariables false
set_option maxRecDepth 10000

def E2 : List En := [(1, ⟨#[97]⟩), (3, ⟨#[98]⟩)]
theorem lit_e (w : World) (l : List En) (q : Nat) (hq : q = w.heap.size) (h : l.length ≤ 4096) : Sl (w.alloc (.cells (eE.cells l).toArray 30)) (.slice (some ⟨q, 0, none⟩) l.length l.length) l := by
  refine ⟨_, _, rfl, Nat.le_refl _, by omega, .inr ⟨⟨q, 0, none⟩, l.length, rfl, .inr rfl, fun t u hu => ?_⟩⟩
  rw [Addr.add_lit, Nat.zero_add]
  exact new_at w hq (by simpa using hu)
set_option maxRecDepth 100000 in
set_option maxHeartbeats 800000 in
theorem two_any (w : World) : Calls Try.prog 11 #[] w fun e w' => ∃ a n c, e = .returned (tv 2 1 (.slice a n c)) ∧ Sl w' (.slice a n c) E2 ∧ w.grownBy w' none := by
  go_enter Try.func11, Try.ntmps11
  go_wp2_with fail
  have hx : ∀ W : World, ((w.alloc (.cells #[.int .i64 2, .int .i64 1, .slice (some ⟨w.heap.size + 1, 0, none⟩) 2 2] 24)).grownBy W none) → W.rangeAt w.heap.size 0 [.int .i64 2, .int .i64 1, .slice (some ⟨w.heap.size + 1, 0, none⟩) 2 2] := fun W g => by
    obtain ⟨h0, h1, h2⟩ := box_kept g
    exact range3 h0 h1 h2
  exact fin1 rfl rfl (hx _ (World.grownBy_alloc _ _ none)) rfl ⟨_, _, _, rfl, lit_e (w.alloc (.cells #[.int .i64 2, .int .i64 1, .slice (some ⟨w.heap.size + 1, 0, none⟩) 2 2] 24)) E2 (w.heap.size + 1) (by simp) (by decide), grown_tr (World.grownBy_alloc w _ none) (World.grownBy_alloc _ _ none)⟩
set_option maxRecDepth 100000 in
set_option maxHeartbeats 3200000 in
theorem Cut_any (b k x : Int) (v : Value) (l : List En) (w : World) (h : Sl w v l) (hk : chk b k l = true) (hx : b ≤ x) (hx2 : x ≤ b + (l.length : Int)) :
    Calls Try.prog 12 #[tv b k v, .int .i64 x] w fun e w' => Res w w' x (tm b k l x) (some (l.drop (x - b).toNat)) e := by
  obtain ⟨ad, c, hv, hlc, hc, _⟩ := id h
  subst hv
  obtain ⟨p1, p2, p3, p4, p5, p6, p7⟩ := chk_parts hk
  have CK : Hid (∀ W, w.grownBy W none → _) := fun W g => check_any b k _ l W (h.grown g)
  rw [hk] at CK
  have GA : Hid (∀ o1 o2, w.grownBy ((w.alloc o1).alloc o2) none) := fun o1 o2 => grown_tr (World.grownBy_alloc w o1 none) (World.grownBy_alloc _ o2 none)
  have HA : Hid (∀ W, _) := fun W => has_any b k x ad l.length c W p1 p2 p5
  rw [decide_eq_true ⟨hx, hx2⟩] at HA
  have TA : Hid (∀ W, w.grownBy W none → _) := fun W g => termAt_any b k x _ l W (h.grown g) p1 p2 hx hx2 p5
  have BH : Hid (∀ W, w.grownBy W none → _) := fun W g => behind_any b k x _ l W (h.grown g) p1 p2 hx hx2 p5
  have JO : Hid (∀ (W : World) (u : Value), Sl W u (l.drop (x - b).toNat) → Calls Try.prog 14 #[tv x (tm b k l x) (.slice none 0 0), u, .slice none 0 0] W fun e w' => ∃ a n c, e = .returned (tv x (tm b k l x) (.slice a n c)) ∧ eE.Own w' W.heap.size (.slice a n c) (l.drop (x - b).toNat) ∧ W.grownBy w' none) := fun W u hu => by
    have := joined_any x (tm b k l x) (.slice none 0 0) u _ _ [] W ⟨_, _, _, rfl⟩ hu (Sl.nil W) (by rw [List.length_drop]; simp; omega)
    rwa [List.append_nil] at this
  generalize tm b k l x = T at *
  generalize (l.drop (x - b).toNat) = L at *
  clear h hk p7
  generalize l.length = N at *
  go_enter Try.func12, Try.ntmps12
  go_wp2_with (first
    | (go_at_call 8; (with_reducible refine (CK.out _ (GA.out _ _)).mono ?_); rintro e w1 ⟨rfl, g1⟩; obtain ⟨⟨q0, q1, q2⟩, _⟩ := two_kept g1)
    | (go_at_call 15; (with_reducible refine (HA.out _).mono ?_); rintro e w2 ⟨rfl, g2⟩; have G2 := grown_tr g1 g2; obtain ⟨⟨r0, r1, r2⟩, _⟩ := two_kept G2)
    | (go_at_call 16; (with_reducible refine (TA.out _ (put_box G2)).mono ?_); rintro e w3 ⟨rfl, g3⟩; have G3 := grown_tr G2 g3; obtain ⟨⟨s0, s1, s2⟩, _⟩ := two_kept G3))
  have G4 := grown_alloc G3 (.cells #[.int .i64 x, .int .i64 T, .slice none 0 0] 24)
  obtain ⟨b0, b1, b2⟩ := box_kept (grown_refl (w3.alloc (.cells #[.int .i64 x, .int .i64 T, .slice none 0 0] 24)) none)
  generalize w3.alloc (.cells #[.int .i64 x, .int .i64 T, .slice none 0 0] 24) = w4 at *
  generalize w3.heap.size = Q at *
  clear s0 s1 s2 r0 r1 r2 q0 q1 q2 g1 g2 g3 G2 CK HA TA
  obtain ⟨⟨s0, s1, s2⟩, _⟩ := two_kept G4
  go_region_with (first
    | (go_at_call 20; (with_reducible refine (BH.out _ (grown_drew (put_box G4))).mono ?_); rintro e w5 ⟨a5, m5, c5, rfl, hS5, g5⟩; have G5 := grown_tr (grown_drew G4) g5; have g5' := grown_tr (grown_drew (grown_refl w4 none)) g5; have i0 := g5'.cell b0 (by simp); have i1 := g5'.cell b1 (by simp); have i2 := g5'.cell b2 (by simp))
    | (go_at_call 14; (with_reducible refine (JO.out _ _ hS5).mono ?_); rintro e w6 ⟨a6, n6, c6, rfl, hO6, g6⟩; have G6 := grown_tr G5 g6; obtain ⟨_, ⟨z0, z1, z2⟩, zf, zs⟩ := two_kept G6; have f0 := zf 0; have f1 := zf 1; have f2 := zf 2))
  all_goals
    clear BH JO
    go_wp2_with fail
    obtain ⟨j0, j1, j2, sg⟩ := put3 (a := .int .i64 x) (b := .int .i64 T) (c := .slice a6 n6 c6) z0 z1 z2
    have hb3 := hO6.lt
    have hz := G5.size
    have hz2 := (put_box G5).size
    exact fin2 rfl rfl (range3 j0 j1 j2) rfl ⟨x, T, a6, n6, c6, true, rfl, (⟨rfl, rfl, rfl, (hO6.low hz2).but sg (fun k hk e => by have := (hb3 k hk).1; injection e with e; simp at hz; omega)⟩ : Rz _ w.heap.size x T (some L) x T (.slice a6 n6 c6) true), grown_more (put_box G6) sg (fun k e => .inr (by injection e with e; omega))⟩
end Go.Proofs.Ytigmpinomfkefaa
