/- Put. -/
import Derived.Test.YtdpcebaggldaiaaTPut
namespace Go.Proofs.Ytdpcebaggldaiaa
open Go.RowKit Trl
set_option linter.unusedVariables false
set_option maxRecDepth 10000

/-- Every world of Put's way that has grown out of the one behind its tests. -/
theorem seen {w W : World} {b k : Int} {v : Value} {t : TypeId} (g : ((w.alloc (.cells #[.int .i64 b, .int .i64 k, v] t)).alloc (.cells #[.int .i64 0, .int .i64 0, .slice none 0 0] t)).grownBy W none) (n : Nat) : ((w.alloc (.cells #[.int .i64 b, .int .i64 k, v] t)).alloc (.cells #[.int .i64 0, .int .i64 0, .slice none 0 0] t)).grownBy (W.drewN n) none := grown_drewN g n
set_option maxRecDepth 100000 in
set_option maxHeartbeats 6400000 in
theorem Put_any (b k p q fx : Int) (v u : Value) (l es : List En) (w : World) (h : Sl w v l) (hu : Sl w u es) (hb : es.length * 24 ≤ 140737488351232) :
    Calls Try.prog 56 #[tv b k v, .int .i64 p, .int .i64 q, u, .int .i64 fx] w fun e w' => Res w w' b k (Put b k l p q es fx) e := by
  obtain ⟨ad, c, hv, hlc, hc, _⟩ := id h
  subst hv
  obtain ⟨aq, cq, hv, hmc, hcq, _⟩ := id hu
  subst hv
  have CK : Hid (∀ W, w.grownBy W none → Calls Try.prog 44 #[tv b k (.slice ad l.length c)] W fun e w' => e = .returned (.bool (chk b k l)) ∧ W.grownBy w' none) := fun W g => check_any b k _ l W (h.grown g)
  have FO : Hid (∀ W, w.grownBy W none → Calls Try.prog 64 #[.slice aq es.length cq, .int .i64 q] W fun e w' => e = .returned (.bool (foll q es)) ∧ W.grownBy w' none) := fun W g => follow_any _ es q W (hu.grown g)
  have GA : Hid (∀ o1 o2, w.grownBy ((w.alloc o1).alloc o2) none) := fun o1 o2 => grown_tr (World.grownBy_alloc w o1 none) (World.grownBy_alloc _ o2 none)
  cases hk : chk b k l with
  | false =>
    have E : Put b k l p q es fx = none := by unfold Put; rw [hk]; rfl
    rw [E]
    rw [hk] at CK
    clear h hu hk E FO
    generalize es.length = M at *
    generalize l.length = N at *
    go_enter Try.func56, Try.ntmps56
    go_wp2_with (go_at_call 44; (with_reducible refine (CK.out _ (GA.out _ _)).mono ?_); rintro e w1 ⟨rfl, g1⟩; obtain ⟨⟨q0, q1, q2⟩, ⟨z0, z1, z2⟩, zf, zs⟩ := two_kept g1; have f0 := zf 0; have f1 := zf 1; have f2 := zf 2)
    obtain ⟨s0, s1, s2, sg⟩ := put3 (a := .int .i64 0) (b := .int .i64 0) (c := .slice none 0 0) z0 z1 z2
    exact fin2 rfl rfl (range3 s0 s1 s2) rfl ⟨0, 0, none, 0, 0, false, rfl, Rz.none_, grown_more (put_box g1) sg (fun k e => .inr (by injection e with e; omega))⟩
  | true =>
    rw [hk] at CK
    by_cases h1 : p < 0
    · have E : Put b k l p q es fx = none := by unfold Put; rw [hk, decide_eq_true h1]; rfl
      rw [E]
      clear h hu hk E FO
      generalize es.length = M at *
      generalize l.length = N at *
      go_enter Try.func56, Try.ntmps56
      go_wp2_with (go_at_call 44; (with_reducible refine (CK.out _ (GA.out _ _)).mono ?_); rintro e w1 ⟨rfl, g1⟩; obtain ⟨⟨q0, q1, q2⟩, ⟨z0, z1, z2⟩, zf, zs⟩ := two_kept g1; have f0 := zf 0; have f1 := zf 1; have f2 := zf 2)
      obtain ⟨s0, s1, s2, sg⟩ := put3 (a := .int .i64 0) (b := .int .i64 0) (c := .slice none 0 0) z0 z1 z2
      exact fin2 rfl rfl (range3 s0 s1 s2) rfl ⟨0, 0, none, 0, 0, false, rfl, Rz.none_, grown_more (put_box g1) sg (fun k e => .inr (by injection e with e; omega))⟩
    by_cases h2 : q < 0
    · have E : Put b k l p q es fx = none := by unfold Put; rw [hk, decide_eq_false h1, decide_eq_true h2]; rfl
      rw [E]
      clear h hu hk E FO
      generalize es.length = M at *
      generalize l.length = N at *
      go_enter Try.func56, Try.ntmps56
      go_wp2_with (go_at_call 44; (with_reducible refine (CK.out _ (GA.out _ _)).mono ?_); rintro e w1 ⟨rfl, g1⟩; obtain ⟨⟨q0, q1, q2⟩, ⟨z0, z1, z2⟩, zf, zs⟩ := two_kept g1; have f0 := zf 0; have f1 := zf 1; have f2 := zf 2)
      obtain ⟨s0, s1, s2, sg⟩ := put3 (a := .int .i64 0) (b := .int .i64 0) (c := .slice none 0 0) z0 z1 z2
      exact fin2 rfl rfl (range3 s0 s1 s2) rfl ⟨0, 0, none, 0, 0, false, rfl, Rz.none_, grown_more (put_box g1) sg (fun k e => .inr (by injection e with e; omega))⟩
    cases hf : foll q es with
    | false =>
      have E : Put b k l p q es fx = none := by unfold Put; rw [hk, decide_eq_false h1, decide_eq_false h2, hf]; rfl
      rw [E]
      rw [hf] at FO
      clear h hu hk E hf
      generalize es.length = M at *
      generalize l.length = N at *
      go_enter Try.func56, Try.ntmps56
      go_wp2_with (first
        | (go_at_call 44; (with_reducible refine (CK.out _ (GA.out _ _)).mono ?_); rintro e w1 ⟨rfl, g1⟩; obtain ⟨⟨q0, q1, q2⟩, ⟨z0, z1, z2⟩, zf, zs⟩ := two_kept g1; have f0 := zf 0; have f1 := zf 1; have f2 := zf 2)
        | (go_at_call 64; (with_reducible refine (FO.out _ (put_box g1)).mono ?_); rintro e w2 ⟨rfl, g2⟩; have G2 := grown_tr g1 g2; obtain ⟨⟨r0, r1, r2⟩, ⟨y0, y1, y2⟩, yf, ys⟩ := two_kept G2; have e0 := yf 0; have e1 := yf 1; have e2 := yf 2))
      obtain ⟨s0, s1, s2, sg⟩ := put3 (a := .int .i64 0) (b := .int .i64 0) (c := .slice none 0 0) y0 y1 y2
      exact fin2 rfl rfl (range3 s0 s1 s2) rfl ⟨0, 0, none, 0, 0, false, rfl, Rz.none_, grown_more (put_box G2) sg (fun k e => .inr (by injection e with e; omega))⟩
    | true =>
      rw [hf] at FO
      have EP : Put b k l p q es fx = if p < b then (if (es.length : Int) < b - p then some l else if ((es[(b - p).toNat - 1]?).map (·.1)).getD 0 = k then putB b k l b k (es.drop (b - p).toNat) fx else none) else putB b k l p q es fx := by unfold Put; rw [hk, decide_eq_false h1, decide_eq_false h2, hf]; rfl
      rw [EP]
      obtain ⟨p1, p2, p3, p4, p5, p6, p7⟩ := chk_parts hk
      have HA : Hid (∀ (W : World) (x : Int), Calls Try.prog 68 #[tv b k (.slice ad l.length c), .int .i64 x] W fun e w' => e = .returned (.bool (decide (b ≤ x ∧ x ≤ b + (l.length : Int)))) ∧ W.grownBy w' none) := fun W x => has_any b k x ad l.length c W p1 p2 p5
      have TA : Hid (∀ (W : World) (x : Int), w.grownBy W none → b ≤ x → x ≤ b + (l.length : Int) → Calls Try.prog 63 #[tv b k (.slice ad l.length c), .int .i64 x] W fun e w' => e = .returned (.int .i64 (tm b k l x)) ∧ W.grownBy w' none) := fun W x g hx hx2 => termAt_any b k x _ l W (h.grown g) p1 p2 hx hx2 p5
      have PU : Hid (∀ (W : World) (x : Int) (u' : Value) (es' : List En), w.grownBy W none → Sl w u' es' → b ≤ x → x ≤ b + (l.length : Int) → es'.length * 24 ≤ 140737488351232 → Calls Try.prog 69 #[tv b k (.slice ad l.length c), .int .i64 x, u', .int .i64 fx] W fun e w' => Res W w' b k (put b k l x es' fx) e) := fun W x u' es' g hu' hx hx2 hb' => put_any b k x fx _ u' l es' W (h.grown g) (hu'.grown g) hk hx hx2 hb'
      clear EP hf
      by_cases hpb : p < b
      · rw [if_pos hpb]
        by_cases hsh : (es.length : Int) < b - p
        · rw [if_pos hsh]
          have JO : Hid (∀ W, w.grownBy W none → Calls Try.prog 67 #[tv b k (.slice ad l.length c), .slice ad l.length c, .slice none 0 0] W fun e w' => ∃ a n c, e = .returned (tv b k (.slice a n c)) ∧ eE.Own w' W.heap.size (.slice a n c) l ∧ W.grownBy w' none) := fun W g => by
            have := joined_any b k (.slice ad l.length c) _ _ l [] W ⟨_, _, _, rfl⟩ (h.grown g) (Sl.nil W) (by simp; omega)
            rwa [List.append_nil] at this
          clear h hu hk HA TA PU p7
          generalize es.length = M at *
          generalize l.length = N at *
          go_enter Try.func56, Try.ntmps56
          go_wp2_with (first
            | (go_at_call 44; (with_reducible refine (CK.out _ (GA.out _ _)).mono ?_); rintro e w1 ⟨rfl, g1⟩; obtain ⟨⟨q0, q1, q2⟩, ⟨z0, z1, z2⟩, zf, zs⟩ := two_kept g1; have f0 := zf 0; have f1 := zf 1; have f2 := zf 2)
            | (go_at_call 64; (with_reducible refine (FO.out _ (put_box g1)).mono ?_); rintro e w2 ⟨rfl, g2⟩; have G2 := grown_tr g1 g2; obtain ⟨⟨r0, r1, r2⟩, ⟨y0, y1, y2⟩, yf, ys⟩ := two_kept G2; have e0 := yf 0; have e1 := yf 1; have e2 := yf 2)
            | (go_at_call 67; (with_reducible refine (JO.out _ (put_box G2)).mono ?_); rintro e w3 ⟨a6, n6, c6, rfl, hO6, g3⟩; have G3 := grown_tr G2 g3; obtain ⟨_, ⟨x0, x1, x2⟩, xf, xs⟩ := two_kept G3; have d0 := xf 0; have d1 := xf 1; have d2 := xf 2))
          obtain ⟨s0, s1, s2, sg⟩ := put3 (a := .int .i64 b) (b := .int .i64 k) (c := .slice a6 n6 c6) x0 x1 x2
          have hb3 := hO6.lt
          have hz := G2.size
          have hz2 := (put_box G2).size
          exact fin2 rfl rfl (range3 s0 s1 s2) rfl ⟨b, k, a6, n6, c6, true, rfl, (⟨rfl, rfl, rfl, (hO6.low hz2).but sg (fun k hk e => by have := (hb3 k hk).1; injection e with e; simp at hz; omega)⟩ : Rz _ w.heap.size b k (some l) b k (.slice a6 n6 c6) true), grown_more (put_box G3) sg (fun k e => .inr (by injection e with e; omega))⟩
        · rw [if_neg hsh]
          obtain ⟨j, hj⟩ : ∃ j : Nat, (b - p).toNat = j + 1 := ⟨(b - p).toNat - 1, by omega⟩
          obtain ⟨y, hy⟩ : ∃ y, es[j]? = some y := ⟨_, List.getElem?_eq_getElem (by omega)⟩
          obtain ⟨g, o, rfl, y5, _⟩ := at_e hu hy
          rw [hj, Nat.add_sub_cancel, hy]
          simp only [Option.map_some, Option.getD_some]
          have YC : Hid (∀ W, w.grownBy W none → W.cell? ⟨g, o + j * 2, none⟩ = some (.int .i64 y.1)) := fun W gr => gr.cell y5 (by simp)
          by_cases hyk : y.1 = k
          · rw [if_pos hyk]
            have EB : putB b k l b k (es.drop (j + 1)) fx = put b k l b (es.drop (j + 1)) fx := by
              unfold putB
              rw [if_pos ⟨Int.le_refl _, by omega, by unfold tm; rw [Int.sub_self]; rfl⟩]
            rw [EB]
            have T0 : tm b k l b = k := by unfold tm; rw [Int.sub_self]; rfl
            have TB := fun W g => TA.out W b g (Int.le_refl _) (by omega)
            rw [T0] at TB
            obtain ⟨a2, m2, c2, hs2, hm2, hD⟩ := hu.from (k := j + 1) (by omega)
            rw [show ((j + 1 : Nat) : Int) = b - p by omega] at hs2
            have PB : Hid _ := fun W g => PU.out W b _ (es.drop (j + 1)) g hD (Int.le_refl _) (by omega) (by rw [List.length_drop]; omega)
            have HB := fun W => HA.out W b
            rw [decide_eq_true (⟨Int.le_refl _, by omega⟩ : b ≤ b ∧ b ≤ b + (l.length : Int))] at HB
            have HB2 : Hid _ := HB
            have TB2 : Hid _ := TB
            generalize put b k l b (es.drop (j + 1)) fx = R at *
            have hyk2 : (y.1 != k) = false := by simpa using hyk
            clear h hu hk HA TA PU p7 hD EB T0 HB TB hy y5 hyk
            generalize es.length = M at *
            generalize l.length = N at *
            obtain ⟨y, ys'⟩ := y
            go_enter Try.func56, Try.ntmps56
            go_wp2_with (first
              | (go_at_call 44; (with_reducible refine (CK.out _ (GA.out _ _)).mono ?_); rintro e w1 ⟨rfl, g1⟩; obtain ⟨⟨q0, q1, q2⟩, ⟨z0, z1, z2⟩, zf, zs⟩ := two_kept g1; have f0 := zf 0; have f1 := zf 1; have f2 := zf 2)
              | (go_at_call 64; (with_reducible refine (FO.out _ (put_box g1)).mono ?_); rintro e w2 ⟨rfl, g2⟩; have G2 := grown_tr g1 g2; obtain ⟨⟨r0, r1, r2⟩, ⟨y0, y1, y2⟩, yf, ys⟩ := two_kept G2; have e0 := yf 0; have e1 := yf 1; have e2 := yf 2; have yc := YC.out _ (put_box G2)))
            go_quiet (fail)
            go_wp2_with fail
            go_quiet (fail)
            go_wp2_with (first
              | (go_at_call 68; (with_reducible refine (HB2.out _).mono ?_); rintro e w3 ⟨rfl, g3⟩; (first | have G3 := grown_tr (grown_drewN (grown_drewN G2 _) _) g3 | have G3 := grown_tr (grown_drewN G2 _) g3); obtain ⟨⟨x0, x1, x2⟩, _⟩ := two_kept G3)
              | (go_at_call 63; (with_reducible refine (TB2.out _ (put_box G3)).mono ?_); rintro e w4 ⟨rfl, g4⟩; have G4 := grown_tr G3 g4; obtain ⟨⟨v0, v1, v2⟩, _⟩ := two_kept G4)
              | (go_at_call 69; (with_reducible refine (PB.out _ (put_box G4)).mono ?_); rintro e w5 ⟨B6, K6, a6, n6, c6, t6, rfl, hR6, g5⟩; have G5 := grown_tr G4 g5; obtain ⟨_, ⟨u0, u1, u2⟩, uf, us⟩ := two_kept G5; have d0 := uf 0; have d1 := uf 1; have d2 := uf 2))
            obtain ⟨s0, s1, s2, sg⟩ := put3 (a := .int .i64 B6) (b := .int .i64 K6) (c := .slice a6 n6 c6) u0 u1 u2
            have hb3 := hR6.out.lt
            have hz := (G4).size
            have hz2 := (put_box (G4)).size
            exact fin2 rfl rfl (range3 s0 s1 s2) rfl ⟨B6, K6, a6, n6, c6, t6, rfl, (hR6.out.low hz2).but sg (fun k hk e => by have := (hb3 k hk).1; injection e with e; simp at hz this; omega), grown_more (put_box G5) sg (fun k e => .inr (by injection e with e; omega))⟩
          · rw [if_neg hyk]
            have hyk2 : (y.1 != k) = true := by simpa using hyk
            clear h hu hk HA TA PU p7 hy y5 hyk
            generalize es.length = M at *
            generalize l.length = N at *
            obtain ⟨y, ys'⟩ := y
            go_enter Try.func56, Try.ntmps56
            go_wp2_with (first
              | (go_at_call 44; (with_reducible refine (CK.out _ (GA.out _ _)).mono ?_); rintro e w1 ⟨rfl, g1⟩; obtain ⟨⟨q0, q1, q2⟩, ⟨z0, z1, z2⟩, zf, zs⟩ := two_kept g1; have f0 := zf 0; have f1 := zf 1; have f2 := zf 2)
              | (go_at_call 64; (with_reducible refine (FO.out _ (put_box g1)).mono ?_); rintro e w2 ⟨rfl, g2⟩; have G2 := grown_tr g1 g2; obtain ⟨⟨r0, r1, r2⟩, ⟨y0, y1, y2⟩, yf, ys⟩ := two_kept G2; have e0 := yf 0; have e1 := yf 1; have e2 := yf 2; have yc := YC.out _ (put_box G2)))
            go_quiet (fail)
            go_wp2_with fail
            obtain ⟨s0, s1, s2, sg⟩ := put3 (w := w2.drewN nq) (a := .int .i64 0) (b := .int .i64 0) (c := .slice none 0 0) y0 y1 y2
            exact fin2 rfl rfl (range3 s0 s1 s2) rfl ⟨0, 0, none, 0, 0, false, rfl, Rz.none_, grown_more (put_box (grown_drewN G2 _)) sg (fun k e => .inr (by injection e with e; omega))⟩
      · rw [if_neg hpb]
        by_cases hin : p ≤ b + (l.length : Int)
        · have HB := fun W => HA.out W p
          rw [decide_eq_true (⟨by omega, hin⟩ : b ≤ p ∧ p ≤ b + (l.length : Int))] at HB
          have HB2 : Hid _ := HB
          have TB2 : Hid _ := fun W g => TA.out W p g (by omega) hin
          by_cases htq : tm b k l p = q
          · have EB : putB b k l p q es fx = put b k l p es fx := by unfold putB; rw [if_pos ⟨by omega, hin, htq⟩]
            rw [EB]
            rw [htq] at TB2
            have PB : Hid _ := fun W g => PU.out W p _ es g hu (by omega) hin hb
            generalize put b k l p es fx = R at *
            clear h hu hk HA TA PU p7 EB HB htq
            generalize es.length = M at *
            generalize l.length = N at *
            go_enter Try.func56, Try.ntmps56
            go_wp2_with (first
              | (go_at_call 44; (with_reducible refine (CK.out _ (GA.out _ _)).mono ?_); rintro e w1 ⟨rfl, g1⟩; obtain ⟨⟨q0, q1, q2⟩, ⟨z0, z1, z2⟩, zf, zs⟩ := two_kept g1; have f0 := zf 0; have f1 := zf 1; have f2 := zf 2)
              | (go_at_call 64; (with_reducible refine (FO.out _ (put_box g1)).mono ?_); rintro e w2 ⟨rfl, g2⟩; have G2 := grown_tr g1 g2; obtain ⟨⟨r0, r1, r2⟩, ⟨y0, y1, y2⟩, yf, ys⟩ := two_kept G2; have e0 := yf 0; have e1 := yf 1; have e2 := yf 2)
              | (go_at_call 68; (with_reducible refine (HB2.out _).mono ?_); rintro e w3 ⟨rfl, g3⟩; have G3 := grown_tr G2 g3; obtain ⟨⟨x0, x1, x2⟩, _⟩ := two_kept G3)
              | (go_at_call 63; (with_reducible refine (TB2.out _ (put_box G3)).mono ?_); rintro e w4 ⟨rfl, g4⟩; have G4 := grown_tr G3 g4; obtain ⟨⟨v0, v1, v2⟩, _⟩ := two_kept G4)
              | (go_at_call 69; (with_reducible refine (PB.out _ (put_box G4)).mono ?_); rintro e w5 ⟨B6, K6, a6, n6, c6, t6, rfl, hR6, g5⟩; have G5 := grown_tr G4 g5; obtain ⟨_, ⟨u0, u1, u2⟩, uf, us⟩ := two_kept G5; have d0 := uf 0; have d1 := uf 1; have d2 := uf 2))
            obtain ⟨s0, s1, s2, sg⟩ := put3 (a := .int .i64 B6) (b := .int .i64 K6) (c := .slice a6 n6 c6) u0 u1 u2
            have hb3 := hR6.out.lt
            have hz := (G4).size
            have hz2 := (put_box (G4)).size
            exact fin2 rfl rfl (range3 s0 s1 s2) rfl ⟨B6, K6, a6, n6, c6, t6, rfl, (hR6.out.low hz2).but sg (fun k hk e => by have := (hb3 k hk).1; injection e with e; simp at hz this; omega), grown_more (put_box G5) sg (fun k e => .inr (by injection e with e; omega))⟩
          · have EB : putB b k l p q es fx = none := by unfold putB; rw [if_neg (fun c => htq c.2.2)]
            rw [EB]
            have htq2 : (tm b k l p != q) = true := by simpa using htq
            generalize tm b k l p = T at *
            clear h hu hk HA TA PU p7 EB HB htq
            generalize es.length = M at *
            generalize l.length = N at *
            go_enter Try.func56, Try.ntmps56
            go_wp2_with (first
              | (go_at_call 44; (with_reducible refine (CK.out _ (GA.out _ _)).mono ?_); rintro e w1 ⟨rfl, g1⟩; obtain ⟨⟨q0, q1, q2⟩, ⟨z0, z1, z2⟩, zf, zs⟩ := two_kept g1; have f0 := zf 0; have f1 := zf 1; have f2 := zf 2)
              | (go_at_call 64; (with_reducible refine (FO.out _ (put_box g1)).mono ?_); rintro e w2 ⟨rfl, g2⟩; have G2 := grown_tr g1 g2; obtain ⟨⟨r0, r1, r2⟩, ⟨y0, y1, y2⟩, yf, ys⟩ := two_kept G2; have e0 := yf 0; have e1 := yf 1; have e2 := yf 2)
              | (go_at_call 68; (with_reducible refine (HB2.out _).mono ?_); rintro e w3 ⟨rfl, g3⟩; have G3 := grown_tr G2 g3; obtain ⟨⟨x0, x1, x2⟩, _⟩ := two_kept G3)
              | (go_at_call 63; (with_reducible refine (TB2.out _ (put_box G3)).mono ?_); rintro e w4 ⟨rfl, g4⟩; have G4 := grown_tr G3 g4; obtain ⟨⟨v0, v1, v2⟩, ⟨u0, u1, u2⟩, uf, us⟩ := two_kept G4; have d0 := uf 0; have d1 := uf 1; have d2 := uf 2))
            obtain ⟨s0, s1, s2, sg⟩ := put3 (a := .int .i64 0) (b := .int .i64 0) (c := .slice none 0 0) u0 u1 u2
            exact fin2 rfl rfl (range3 s0 s1 s2) rfl ⟨0, 0, none, 0, 0, false, rfl, Rz.none_, grown_more (put_box G4) sg (fun k e => .inr (by injection e with e; omega))⟩
        · have EB : putB b k l p q es fx = none := by unfold putB; rw [if_neg (fun c => hin c.2.1)]
          rw [EB]
          have HB := fun W => HA.out W p
          rw [decide_eq_false (fun c => hin c.2 : ¬ (b ≤ p ∧ p ≤ b + (l.length : Int)))] at HB
          have HB2 : Hid _ := HB
          clear h hu hk HA TA PU p7 EB HB
          generalize es.length = M at *
          generalize l.length = N at *
          go_enter Try.func56, Try.ntmps56
          go_wp2_with (first
            | (go_at_call 44; (with_reducible refine (CK.out _ (GA.out _ _)).mono ?_); rintro e w1 ⟨rfl, g1⟩; obtain ⟨⟨q0, q1, q2⟩, ⟨z0, z1, z2⟩, zf, zs⟩ := two_kept g1; have f0 := zf 0; have f1 := zf 1; have f2 := zf 2)
            | (go_at_call 64; (with_reducible refine (FO.out _ (put_box g1)).mono ?_); rintro e w2 ⟨rfl, g2⟩; have G2 := grown_tr g1 g2; obtain ⟨⟨r0, r1, r2⟩, ⟨y0, y1, y2⟩, yf, ys⟩ := two_kept G2; have e0 := yf 0; have e1 := yf 1; have e2 := yf 2)
            | (go_at_call 68; (with_reducible refine (HB2.out _).mono ?_); rintro e w3 ⟨rfl, g3⟩; have G3 := grown_tr G2 g3; obtain ⟨⟨x0, x1, x2⟩, ⟨u0, u1, u2⟩, uf, us⟩ := two_kept G3; have d0 := uf 0; have d1 := uf 1; have d2 := uf 2))
          obtain ⟨s0, s1, s2, sg⟩ := put3 (a := .int .i64 0) (b := .int .i64 0) (c := .slice none 0 0) u0 u1 u2
          exact fin2 rfl rfl (range3 s0 s1 s2) rfl ⟨0, 0, none, 0, 0, false, rfl, Rz.none_, grown_more (put_box G3) sg (fun k e => .inr (by injection e with e; omega))⟩
end Go.Proofs.Ytdpcebaggldaiaa
