/- Whatever is planned, done or given up, a right map stays right, each name lies in one span, epochs never fall: the walk of the statement. -/
import Derived.Test.YtkidhnlombhhnaaACoverD
import Derived.Test.YtkidhnlombhhnaaARef1
import Derived.Test.YtkidhnlombhhnaaABackM
import Derived.Test.YtkidhnlombhhnaaASame
namespace Go.Proofs.Ytkidhnlombhhnaa
open Go.RowKit Atl
set_option linter.unusedVariables false
set_option maxRecDepth 10000

theorem plc_cases (l : List Sp) (x : Int) : (plc l x = -1) ∨ ∃ (n : Nat) (t : Sp), plc l x = (n : Int) ∧ l[n]? = some t ∧ t.sh = x ∧ n < l.length := by
  by_cases h : plc l x < 0
  · left
    unfold plc at h ⊢
    by_cases hl : idx l x < l.length
    · rw [if_pos hl] at h; omega
    · rw [if_neg hl]
  · obtain ⟨t, h1, h2, h3⟩ := plc_neg h
    exact .inr ⟨idx l x, t, h3, h1, h2, (List.getElem?_eq_some_iff.1 h1).1⟩

namespace atlasCovers
set_option maxRecDepth 100000 in
set_option maxHeartbeats 128000000 in
theorem walk (w : World) (v0 : Value) (o0 : ∃ (a : Am) (u : S3), v0 = av a u ∧ Rat w a u ∧ Szm a) (v1 : Value) (o1 : ∃ (u : S3) (l : List Dd), v1 = .slice u.a u.n u.c ∧ eD.Rx w (.slice u.a u.n u.c) l ∧ u.n = l.length ∧ l.length * 88 ≤ 140737488355328 ∧ Szd l) (v2 : Value) (o2 : ∃ k : ByteArray, v2 = .string k ∧ k.size ≤ 140737488351232) :
    Calls Try.prog 5 #[v0, v1, v2] w fun e w' => e = .returned (.bool true) ∧ Below w.heap.size w w' := by
  obtain ⟨a, u, rfl, hr, hz⟩ := o0
  obtain ⟨t, l, rfl, hd, hdn, hdw, hds⟩ := o1
  obtain ⟨key, rfl, hk⟩ := o2
  obtain ⟨ta, tn, tc⟩ := t
  obtain ⟨N, hN⟩ : ∃ N, l.length = N := ⟨_, rfl⟩
  simp only at hdn hd ⊢
  rw [hN] at hdn hdw
  subst hdn
  have LN : Hid (l.length = tn) := hN
  have tn63 : (tn : Int) ≤ 9223372036854775807 := by omega
  clear hN hdw
  have AW : Hid (∀ W, _) := fun W => awake_any W
  have CK : Hid (∀ W, w.grownBy W none → Calls Try.prog 14 #[av a u] W fun e w' => e = .returned (.bool (chk a)) ∧ W.grownBy w' none) := fun W g => check_any a u W (hr.grown g) hz
  have FK : Hid (∀ W, w.grownBy W none → Calls Try.prog 10 #[av a u, .string key] W fun e w' => e = .returned (.tuple #[sv (findS a key), .bool (findB a key)]) ∧ W.grownBy w' none) := fun W g => find_any a u key W (hr.grown g) hz hk
  have CM : Hid (∀ (M : Am) v W, Rgt M → Rat W M v → Calls Try.prog 14 #[av M v] W fun e w' => e = .returned (.bool true) ∧ W.grownBy w' none) := fun M v W h r => by
    have := check_any M v W r (szm_of h)
    rwa [chk_is.2 h] at this
  have FM : Hid (∀ (M : Am) v W, Rgt M → Rat W M v → Calls Try.prog 10 #[av M v, .string key] W fun e w' => e = .returned (.tuple #[sv (findS M key), .bool (findB M key)]) ∧ W.grownBy w' none) := fun M v W h r => find_any M v key W r (szm_of h) hk
  have DM : Hid (∀ (M : Am) v (d : Dd) W, Rgt M → d ∈ l → Rat W M v → Calls Try.prog 23 #[av M v, dv d] W fun e w' => Res W (doM M d) (doE M d) e w') := fun M v d W h hm r => does_any M v d W r (szm_of h) (hds d hm)
  have PM : Hid (∀ (M : Am) v (x : Int) W, Rat W M v → Calls Try.prog 24 #[av M v, .int .i64 x] W fun e w' => e = .returned (.int .i64 (plc M.l x)) ∧ W.grownBy w' none) := fun M v x W r => rplace_any M v x W r
  have SM : Hid (∀ (M : Am) v v' W, Rat W M v → Rat W M v' → Calls Try.prog 16 #[av M v, av M v'] W fun e w' => e = .returned (.bool true) ∧ W.grownBy w' none) := fun M v v' W r r' => same_any M v v' W r r'
  have RA : Hid (Rat w a u) := hr
  obtain ⟨W0, hW0⟩ : ∃ W0, W0 = w.alloc (.cells (aa a u) 26) := ⟨_, rfl⟩
  have G0 : Hid (w.grownBy W0 none) := by rw [hW0]; exact World.grownBy_alloc _ _ none
  have Z0 : Hid (w.heap.size < W0.heap.size) := by show _ < _; rw [hW0]; simp
  have CA : Hid (∀ W, W0.grownBy W none → Cs W w.heap.size (ac a u)) := fun W g => by rw [hW0] at g; exact cs_new g
  have RD : Hid (∀ W, w.grownBy W none → eD.Rx W (.slice ta tn tc) l) := fun W g => hd.grown g
  have HW0 : Hid (W0 = _) := hW0
  clear hW0 hr hz hk hd hds
  go_enter Try.func5, Try.ntmps5
  go_upto_region 1 with fail
  rw [← HW0.out]
  go_upto_region 3 with (go_at_call 9; (with_reducible refine (AW.out _).mono ?_); rintro e w1 ⟨rfl, g1⟩)
  have G1 : Hid (W0.grownBy w1 none) := g1
  clear AW g1
  have CKK := CK.out w1 (grown_tr G0.out G1.out)
  cases hc : chk a with
  | false =>
    have fb : findB a key = false := by unfold findB; rw [hc, Bool.and_false]
    have FKK := fun W g => FK.out W g
    rw [fb] at FKK
    rw [hc] at CKK
    clear hc fb
    go_wp2_with (first
      | (refine load_a w.heap.size 0 a u rfl (CA.out w1 G1.out).1 ?_)
      | (go_at_call 14; (with_reducible refine CKK.mono ?_); rintro e w3 ⟨rfl, g3⟩)
      | (refine load_a w.heap.size 0 a u rfl (CA.out w3 (grown_tr G1.out g3)).1 ?_)
      | (go_at_call 10; (with_reducible refine (FKK _ (grown_tr G0.out (grown_tr G1.out g3))).mono ?_); rintro e w4 ⟨rfl, g4⟩))
    go_ret
    exact ⟨rfl, grown_below (grown_tr (grown_tr G0.out (grown_tr G1.out g3)) (grown_alloc g4 _))⟩
  | true =>
    have RG := chk_is.1 hc
    rw [hc] at CKK
    clear hc
    go_upto_region 6 with (first
      | (refine load_a w.heap.size 0 a u rfl (CA.out w1 G1.out).1 ?_)
      | (go_at_call 14; (with_reducible refine CKK.mono ?_); rintro e w3 ⟨rfl, g3⟩))
    have I0 : Hid (Rgt a ∧ Cs w3 w.heap.size (ac a u) ∧ Rat w3 a u ∧ (∀ k, (Value.slice u.a u.n u.c).ownBlock = some k → k ≠ w.heap.size) ∧ w.grownBy w3 none ∧ w.heap.size < w3.heap.size) := (⟨RG, CA.out w3 (grown_tr G1.out g3), RA.out.grown (grown_tr G0.out (grown_tr G1.out g3)), fun k e => Nat.ne_of_lt (RA.out.1.lt (by intro e; have := RG.n1; rw [e] at this; simp at this) k e), grown_tr G0.out (grown_tr G1.out g3), by have h1 := Z0.out; have h2 := G1.out.size; have h3 := g3.size; omega⟩ : _ ∧ _)
    clear CKK CK FK g3 G1 G0 CA RA RG HW0 Z0
    obtain ⟨q, hq⟩ : ∃ q, q = w.heap.size := ⟨_, rfl⟩
    have HQ : Hid (q = w.heap.size) := hq
    rw [← hq] at I0 ⊢
    clear hq
    go_upto_region 7 with fail
    go_loopw [9, 10, 11, 12, 13, 14, 15, 16, 17] (fun i _ _ _ _ _ _ _ _ wr => ∃ (j : Nat) (M : Am) (v : S3), j ≤ tn ∧ i = .int .i64 (j : Int) ∧ Hid (Rgt M ∧ Cs wr q (ac M v) ∧ Rat wr M v ∧ (∀ k, (Value.slice v.a v.n v.c).ownBlock = some k → k ≠ q) ∧ w.grownBy wr none ∧ q < wr.heap.size)) (fun i _ _ _ _ _ _ _ _ _ => tn - (intOf i).toNat)
    case atStart => exact ⟨0, a, u, by omega, rfl, I0⟩
    case round =>
      clear I0
      obtain ⟨j, M, v, hj, rfl, I⟩ := hrel
      by_cases hlt : j < tn
      · by_cases h200 : j < 200
        · obtain ⟨d, hy⟩ : ∃ y, l[j]? = some y := ⟨_, List.getElem?_eq_getElem (by rw [LN.out]; exact hlt)⟩
          have HM : Hid (d ∈ l) := List.mem_of_getElem? hy
          obtain ⟨k1, k2, k3, k4, k5, k6⟩ := I.out
          have DR : Hid (Rgt (doM M d) ∧ Later M.l (doM M d).l ∧ (doE M d ≠ 0 → doM M d = M)) := does_right k1 d
          obtain ⟨g, o, ea, r1⟩ := do_at (RD.out wr k5) hy
          have HG : Hid (w.grownBy wr none) := k5
          have HC : Hid (Cs wr q (ac M v)) := k2
          have HR : Hid (Rat wr M v ∧ Rgt M) := (⟨k3, k1⟩ : _ ∧ _)
          have HS : Hid (q < wr.heap.size ∧ q = w.heap.size) := (⟨k6, HQ.out⟩ : _ ∧ _)
          have HO : Hid (∀ k, (Value.slice v.a v.n v.c).ownBlock = some k → k ≠ q) := k4
          have GB : Hid (wr.grownBy (wr.alloc (.cells zaa 26)).drew none) := grown_drew (World.grownBy_alloc _ _ none)
          have RB : (wr.alloc (.cells zaa 26)).drew.rangeAt g (o + j * 10) (dc d) := by
            have k := RD.out _ (grown_tr k5 GB.out)
            obtain ⟨g', o', ea', r'⟩ := do_at k hy
            rw [ea] at ea'
            injection ea' with ea'
            injection ea' with e1 e2 _
            subst e1 e2
            exact r'
          obtain ⟨a0, a1, a2, a3, a4, a5, a6, a7, a8, a9, a10⟩ := cells_a k2.1
          obtain ⟨b0, b1, b2, b3, b4, b5, b6, b7, b8, b9, b10⟩ := cells_a (k2.grown GB.out k6).1
          have YS : Hid (∀ {W : World}, ((wr.alloc (.cells zaa 26)).drew).grownBy W none → Cs W wr.heap.size zaa.toList) := fun {W} g => cs_new (grown_tr (grown_drew (grown_refl _ _)) g)
          have DD : Hid (∀ W, wr.grownBy W none → Calls Try.prog 23 #[av M v, dv d] W fun e w' => Res W (doM M d) (doE M d) e w') := fun W g => DM.out M v d W k1 HM.out (k3.grown g)
          have c0 := r1 0 _ rfl
          have c1 := r1 1 _ rfl
          have c2 := r1 2 _ rfl
          have c3 := r1 3 _ rfl
          have c4 := r1 4 _ rfl
          have c5 := r1 5 _ rfl
          have c6 := r1 6 _ rfl
          have c7 := r1 7 _ rfl
          have c8 := r1 8 _ rfl
          have c9 := r1 9 _ rfl
          have e0 := RB 0 _ rfl
          have e1 := RB 1 _ rfl
          have e2 := RB 2 _ rfl
          have e3 := RB 3 _ rfl
          have e4 := RB 4 _ rfl
          have e5 := RB 5 _ rfl
          have e6 := RB 6 _ rfl
          have e7 := RB 7 _ rfl
          have e8 := RB 8 _ rfl
          have e9 := RB 9 _ rfl
          simp only [Nat.add_zero] at c0 e0
          subst ea
          clear k1 k2 k3 k4 k5 k6 r1 RB hy
          go_upto_region 9 with fail
          go_cut [10, 11] from 31 to 49 (fun t10 t11 wx => ∃ (q2 : Nat) (v2 : S3), t10 = .pointer (some ⟨q2, 0, none⟩) ∧ t11 = .int .i64 (doE M d) ∧ Hid (wr.grownBy wx none ∧ wx.rangeAt q2 0 (ac (doM M d) v2) ∧ Rat wx (doM M d) v2 ∧ (∀ k, (Value.slice v2.a v2.n v2.c).ownBlock = some k → wr.heap.size ≤ k) ∧ q2 < wx.heap.size ∧ wr.heap.size ≤ q2))
          case first =>
            go_region_with (first | (go_at_call 23; (with_reducible refine (DD.out _ ?_).mono ?_); (first | exact grown_drew (grown_refl _ _) | exact GB.out); rintro e w8 ⟨u8, rfl, r8, g8, b8⟩; first | (have gg := grown_tr (grown_drew (grown_refl wr _)) g8; have ORD : Hid (True) := trivial) | (have gg := grown_tr GB.out g8; have y := YS.out g8; obtain ⟨y0, y1, y2, y3, y4, y5, y6, y7, y8, y9, y10⟩ := cells_a (a := zA) (u := nil3) y.1; have fz := y.2)))
            all_goals
              go_wp2_with fail
              go_meet
              first
                | (refine ⟨w8.heap.size, u8, rfl, rfl, ?_⟩; show _ ∧ _ ∧ _ ∧ _ ∧ _ ∧ _; exact ⟨grown_alloc gg _, box_a (grown_refl _ _), r8.grown (World.grownBy_alloc _ _ none), fun k e => by (have h1 := b8 k e; simpa using h1), by simp, gg.size⟩)
                | (refine ⟨wr.heap.size, u8, rfl, rfl, ?_⟩; show _ ∧ _ ∧ _ ∧ _ ∧ _ ∧ _; exact ⟨grown_more gg (grown_setCells wr.heap.size (ac (doM M d) u8) 0 w8) (fun k e => .inr (by injection e with e; omega)), ((YS.out g8).sets (ac (doM M d) u8) rfl).1, r8.kept (Chg.of (F := fun k => k = wr.heap.size) (grown_setCells wr.heap.size (ac (doM M d) u8) 0 w8) (fun k e => by injection e with e; exact e.symm)) (fun _ k hk e => by (have h1 := b8 k hk; simp at h1; omega)), fun k e => by (have h1 := b8 k e; simp at h1; omega), by (show _ < (World.setCells w8 wr.heap.size 0 (ac (doM M d) u8)).heap.size; rw [setCells_size]; have h1 := g8.size; simp at h1; omega), Nat.le_refl _⟩)
          case rest =>
            obtain ⟨q2, v2, rfl, rfl, CF⟩ := hcut
            rename World => w9
            clear a0 a1 a2 a3 a4 a5 a6 a7 a8 a9 a10 b0 b1 b2 b3 b4 b5 b6 b7 b8 b9 b10 c0 c1 c2 c3 c4 c5 c6 c7 c8 c9 e0 e1 e2 e3 e4 e5 e6 e7 e8 e9 YS GB DD
            have DRR := DR.out
            generalize doE M d = E at *
            generalize doM M d = B at *
            have RGB : Hid (Rgt B ∧ Later M.l B.l ∧ (E ≠ 0 → B = M)) := DRR
            clear DRR DR HM
            have RGM := HR.out.2
            have KA : Hid (∀ W, w9.grownBy W none → Cs W q (ac M v)) := fun W g => HC.out.grown (grown_tr CF.out.1 g) HS.out.1
            have RM : Hid (∀ W, w9.grownBy W none → Rat W M v) := fun W g => HR.out.1.grown (grown_tr CF.out.1 g)
            have KB : Hid (∀ W, w9.grownBy W none → W.rangeAt q2 0 (ac B v2)) := fun W g i y hy => g.cell (CF.out.2.1 i y hy) (by simp)
            have RB : Hid (∀ W, w9.grownBy W none → Rat W B v2) := fun W g => CF.out.2.2.1.grown g
            have HW : Hid (w.grownBy w9 none) := grown_tr HG.out CF.out.1
            have HO2 : Hid (∀ k, (Value.slice v2.a v2.n v2.c).ownBlock = some k → k ≠ q) := fun k e => by have h1 := CF.out.2.2.2.1 k e; have h2 := HS.out; omega
            have HS9 : Hid (q < w9.heap.size ∧ q = w.heap.size) := (⟨by have h1 := CF.out.1.size; have h2 := HS.out; omega, HS.out.2⟩ : _ ∧ _)
            clear CF HC HR HS HO HG RGM
            go_upto_region 10 with fail
            go_cut [62] from 31 to 61 (fun t62 wx => t62 = .bool false ∧ Hid (w9.grownBy wx none))
            case first =>
              have CB := CM.out B v2 w9 RGB.out.1 (RB.out w9 (grown_refl _ _))
              by_cases he : E = 0
              · have e1 : (E != 0) = false := by simpa using he
                clear he
                go_wp2_with (first
                  | (refine load_a q2 0 B v2 rfl (KB.out w9 (grown_refl _ _)) ?_)
                  | (go_at_call 14; (with_reducible refine CB.mono ?_); rintro e w10 ⟨rfl, g10⟩))
                go_meet
                exact ⟨by first | rfl | simp, g10⟩
              · have e1 : (E != 0) = true := by simpa using he
                have hBM := RGB.out.2.2 he
                subst hBM
                clear he
                go_wp2_with (first
                  | (refine load_a q2 0 B v2 rfl (KB.out w9 (grown_refl _ _)) ?_)
                  | (go_at_call 14; (with_reducible refine CB.mono ?_); rintro e w10 ⟨rfl, g10⟩)
                  | (refine load_ag q 0 B v (by rfl) rfl (KA.out w10 g10).1 ?_)
                  | (refine load_ag q2 0 B v2 (by rfl) rfl (KB.out w10 g10) ?_)
                  | (go_at_call 16; (with_reducible refine (SM.out B v v2 w10 (RM.out w10 g10) (RB.out w10 g10)).mono ?_); rintro e w11 ⟨rfl, g11⟩))
                go_meet
                exact ⟨by first | rfl | simp, grown_tr g10 g11⟩
            case rest =>
              obtain ⟨rfl, GA⟩ := hcut
              rename World => w10
              obtain ⟨va, vn, vc⟩ := v
              obtain ⟨ya, yn, yc⟩ := v2
              have hvn : vn = M.l.length := (RM.out w9 (grown_refl _ _)).2.1
              have hyn : yn = B.l.length := (RB.out w9 (grown_refl _ _)).2.1
              have M16 : vn ≤ 16 := by rw [hvn]; exact I.out.1.n16
              have B16 : yn ≤ 16 := by rw [hyn]; exact RGB.out.1.n16
              have NM : Hid (M.l.length = vn) := hvn.symm
              have NB : Hid (B.l.length = yn) := hyn.symm
              clear hvn hyn CM SM DM
              go_upto_block 2 with fail
              go_cut [12, 13] from 31 to 124 (fun _ _ wx => Hid (w9.grownBy wx none))
              case first =>
                as_aux_lemma =>
                  go_wp2_with fail
                  go_loopw [12, 13] (fun k _ wl => ∃ n : Nat, n ≤ vn ∧ k = .int .i64 (n : Int) ∧ Hid (w9.grownBy wl none)) (fun k _ _ => vn - (intOf k).toNat)
                  case atStart => exact ⟨0, by omega, rfl, GA⟩
                  case round =>
                    clear GA
                    obtain ⟨n, hn, rfl, G⟩ := hrel
                    rename World => wl
                    have x2 := (cells_a (KA.out wl G.out).1).2.2.1
                    by_cases hlt2 : n < vn
                    · obtain ⟨s, hy⟩ : ∃ y, M.l[n]? = some y := ⟨_, List.getElem?_eq_getElem (by rw [NM.out]; exact hlt2)⟩
                      obtain ⟨g2, o2, ea, r2⟩ := range_at (RM.out wl G.out).1 hy
                      simp only at ea
                      subst ea
                      obtain ⟨p0, p1, p2, p3, p4⟩ := cells_s r2
                      have SS : Hid (∀ W, w9.grownBy W none → W.rangeAt g2 (o2 + n * 5) (sc s)) := fun W gr => range_in (RM.out W gr).1 hy
                      have HY : Hid (M.l[n]? = some s) := hy
                      have PP : Hid (∀ W, wl.grownBy W none → Calls Try.prog 24 #[av B ⟨ya, yn, yc⟩, .int .i64 s.sh] W fun e w' => e = .returned (.int .i64 (plc B.l s.sh)) ∧ W.grownBy w' none) := fun W gr => PM.out B _ s.sh W (RB.out W (grown_tr G.out gr))
                      obtain ⟨b0, b1, b2, b3, b4, b5, b6, b7, b8, b9, b10⟩ := cells_a (KB.out wl G.out)
                      clear hy r2
                      go_upto_region 15 with fail
                      go_cut [13] from 63 to 77 (fun t13 wx => t13 = .int .i64 (plc B.l s.sh) ∧ Hid (w9.grownBy wx none))
                      case first =>
                        go_region_with (go_at_call 24; (with_reducible refine (PP.out _ ?_).mono ?_); (first | exact grown_drew (grown_refl _ _) | exact grown_refl _ _); rintro e w12 ⟨rfl, g12⟩; have G12 : Hid (w9.grownBy w12 none) := by first | exact grown_tr (grown_drew G.out) g12 | exact grown_tr G.out g12)
                        all_goals
                          go_wp2_with fail
                          go_meet
                          exact ⟨rfl, G12⟩
                      case rest =>
                        obtain ⟨rfl, G3⟩ := hcut
                        rename World => wm
                        obtain ⟨s0, s1, s2, s3, s4⟩ := cells_s (SS.out wm G3.out)
                        have z2 := (cells_a (KA.out wm G3.out).1).2.2.1
                        have y2 := (cells_a (KB.out wm G3.out)).2.2.1
                        simp only at z2 y2
                        clear b0 b1 b2 b3 b4 b5 b6 b7 b8 b9 b10 x2 p0 p1 p2 p3 p4 PP G
                        rcases plc_cases B.l s.sh with h | ⟨m, t, h, ht, hts, hm⟩
                        · rw [h]
                          clear h
                          go_upto_region 16 with fail
                          go_quiet (fail)
                          go_wp2_with fail
                          go_roundw
                          case rel => exact ⟨n + 1, by omega, by go_num, grown_drewN G3.out _⟩
                          case measure => simp [intOf]; omega
                        · obtain ⟨le, lg⟩ := RGB.out.2.1 s (List.mem_of_getElem? HY.out) t (List.mem_of_getElem? ht) hts
                          obtain ⟨g3, o3, ea, r3⟩ := range_at (RB.out wm G3.out).1 ht
                          simp only at ea
                          subst ea
                          obtain ⟨t0, t1, t2, t3, t4⟩ := cells_s r3
                          rw [NB.out] at hm
                          have hm1 : (m : Int) < (yn : Int) := by omega
                          have hm2 : (m : Int).toNat = m := by omega
                          have l1 : ¬ (t.ep < s.ep) := by omega
                          rw [h]
                          clear h ht hts r3 le
                          rcases lg with lg | lg
                          · have d1 : (t.gr != s.gr) = false := by simpa using lg
                            clear lg
                            go_upto_region 16 with fail
                            go_quiet (fail)
                            go_wp2_with fail
                            go_roundw
                            case rel => exact ⟨n + 1, by omega, by go_num, grown_drewN G3.out _⟩
                            case measure => simp [intOf]; omega
                          · have d2 : (t.ep == s.ep) = false := by simp; omega
                            clear lg
                            cases d1 : (t.gr != s.gr) with
                            | false =>
                              go_upto_region 16 with fail
                              go_quiet (fail)
                              go_wp2_with fail
                              go_roundw
                              case rel => exact ⟨n + 1, by omega, by go_num, grown_drewN G3.out _⟩
                              case measure => simp [intOf]; omega
                            | true =>
                              go_upto_region 16 with fail
                              go_quiet (fail)
                              go_wp2_with fail
                              go_roundw
                              case rel => exact ⟨n + 1, by omega, by go_num, grown_drewN G3.out _⟩
                              case measure => simp [intOf]; omega
                    · go_wp2_with fail
                      go_meet
                      exact G
              case rest =>
                have G2 : Hid (w9.grownBy wc none) := hcut
                rename World => w11
                have FB := FM.out B ⟨ya, yn, yc⟩ w11 RGB.out.1 (RB.out w11 G2.out)
                clear hcut GA
                go_upto_region 20 with (first
                  | (refine load_a q2 0 B _ rfl (KB.out w11 G2.out) ?_)
                  | (go_at_call 10; (with_reducible refine FB.mono ?_); rintro e w13 ⟨rfl, g13⟩))
                have G13 : Hid (w9.grownBy (w13.alloc (.cells (sa (findS B key)) 29)) none) := grown_alloc (grown_tr G2.out g13) _
                have X13 : Hid (∀ W, (w13.alloc (.cells (sa (findS B key)) 29)).grownBy W none → W.rangeAt w13.heap.size 0 (sc (findS B key))) := fun W g => (box_s g).1
                clear g13 FB G2
                generalize w13.alloc (.cells (sa (findS B key)) 29) = v13 at *
                generalize w13.heap.size = q15 at *
                have FIN : ∀ (w15 : World) (w16 : World), Hid (v13.grownBy w15 none) → Hid (w16 = w15.setCells q 0 (ac B ⟨ya, yn, yc⟩)) → Hid (Rgt B ∧ Cs w16 q (ac B ⟨ya, yn, yc⟩) ∧ Rat w16 B ⟨ya, yn, yc⟩ ∧ (∀ k, (Value.slice ya yn yc).ownBlock = some k → k ≠ q) ∧ w.grownBy w16 none ∧ q < w16.heap.size) := fun w15 w16 g e => by
                  have gg := grown_tr G13.out g.out
                  have gs := grown_setCells q (ac B ⟨ya, yn, yc⟩) 0 w15
                  show _ ∧ _ ∧ _ ∧ _ ∧ _ ∧ _
                  rw [e.out]
                  refine ⟨RGB.out.1, (KA.out w15 gg).sets _ rfl, (RB.out w15 gg).kept (Chg.of (F := fun k => k = q) gs (fun k e => by injection e with e; exact e.symm)) (fun _ k hk => HO2.out k hk), HO2.out, grown_more (grown_tr HW.out gg) gs (fun k e => .inr (by injection e with e; have := HS9.out; omega)), ?_⟩
                  rw [setCells_size]
                  have h1 := HS9.out
                  have h2 := gg.size
                  omega
                have FIN : Hid (∀ (w15 : World) (w16 : World), Hid (v13.grownBy w15 none) → Hid (w16 = w15.setCells q 0 (ac B ⟨ya, yn, yc⟩)) → Hid (Rgt B ∧ Cs w16 q (ac B ⟨ya, yn, yc⟩) ∧ Rat w16 B ⟨ya, yn, yc⟩ ∧ (∀ k, (Value.slice ya yn yc).ownBlock = some k → k ≠ q) ∧ w.grownBy w16 none ∧ q < w16.heap.size)) := FIN
                have V0 : Hid (v13.grownBy v13 none) := grown_refl _ _
                cases hb : findB B key with
                | false =>
                  clear hb
                  go_upto_block 4 with fail
                  go_cut [14, 17] from 31 to 176 (fun _ _ wx => Hid (v13.grownBy wx none))
                  case first =>
                    as_aux_lemma =>
                      go_wp2_with fail
                      go_loopw [14, 17] (fun _ k wl => ∃ n : Nat, n ≤ yn ∧ k = .int .i64 (n : Int) ∧ Hid (v13.grownBy wl none)) (fun _ k _ => yn - (intOf k).toNat)
                      case atStart => exact ⟨0, by omega, rfl, V0⟩
                      case round =>
                        clear V0
                        obtain ⟨n, hn, rfl, G⟩ := hrel
                        rename World => wl
                        have y2 := (cells_a (KB.out wl (grown_tr G13.out G.out))).2.2.1
                        by_cases hlt2 : n < yn
                        · go_wp2_with fail
                          go_roundw
                          case rel => exact ⟨n + 1, by omega, by go_num, G⟩
                          case measure => simp [intOf]; omega
                        · go_wp2_with fail
                          go_meet
                          exact G
                  case rest =>
                    have GE : Hid (v13.grownBy wc none) := hcut
                    rename World => w15
                    clear hcut V0
                    go_wp2_with (first
                      | (refine load_a q2 0 B _ rfl (KB.out w15 (grown_tr G13.out GE.out)) ?_)
                      | (refine store_row (ty := 26) q 0 (aa B ⟨ya, yn, yc⟩) rfl rfl ((KA.out w15 (grown_tr G13.out GE.out)).there (by simp)) (by kernel_rfl) (by simp [Value.oneCell']) ?_; intro w16 h16; have H16 : Hid (w16 = w15.setCells q 0 (ac B ⟨ya, yn, yc⟩)) := h16; clear h16))
                    go_roundw
                    case rel => exact ⟨j + 1, B, ⟨ya, yn, yc⟩, by omega, by go_num, FIN.out w15 w16 GE H16⟩
                    case measure => simp [intOf]; omega
                | true =>
                  have FA : Hid (B.l[fnd B.l key]? = some (findS B key) ∧ fnd B.l key < yn) := (⟨findS_at RGB.out.1 hb, by have := fnd_lt RGB.out.1 key; rw [NB.out] at this; exact this⟩ : _ ∧ _)
                  have NS : Hid (∀ W, (binOp .neq 29 (sv (findS B key)) (sv (findS B key))).run Try.prog W = .ok (.bool false) W) := fun W => by
                    have := neq_span (findS B key) (findS B key) W
                    rwa [seq_self] at this
                  have IN : Hid (∀ (n : Nat) (y : Sp), B.l[n]? = some y → inS y key = decide (n = fnd B.l key)) := fun n y h => ins_is RGB.out.1 h
                  clear hb
                  generalize findS B key = S at *
                  obtain ⟨Fn, hF⟩ : ∃ Fn, fnd B.l key = Fn := ⟨_, rfl⟩
                  rw [hF] at FA IN
                  clear hF
                  go_upto_block 4 with fail
                  go_cut [14, 17] from 31 to 176 (fun t14 _ wx => t14 = .int .i64 1 ∧ Hid (v13.grownBy wx none))
                  case first =>
                    as_aux_lemma =>
                      go_wp2_with fail
                      go_loopw [14, 17] (fun c k wl => ∃ (n : Nat) (C : Int), n ≤ yn ∧ c = .int .i64 C ∧ Hid (C = if Fn < n then 1 else 0) ∧ k = .int .i64 (n : Int) ∧ Hid (v13.grownBy wl none)) (fun _ k _ => yn - (intOf k).toNat)
                      case atStart => exact ⟨0, 0, by omega, rfl, (show (0 : Int) = if Fn < 0 then 1 else 0 by simp), rfl, V0⟩
                      case round =>
                        clear V0
                        obtain ⟨n, C, hn, rfl, HC, rfl, G⟩ := hrel
                        rename World => wl
                        have y2 := (cells_a (KB.out wl (grown_tr G13.out G.out))).2.2.1
                        simp only at y2
                        by_cases hlt2 : n < yn
                        · obtain ⟨y, hy⟩ : ∃ y, B.l[n]? = some y := ⟨_, List.getElem?_eq_getElem (by rw [NB.out]; exact hlt2)⟩
                          have INY := IN.out n y hy
                          obtain ⟨g3, o3, ea, r3⟩ := range_at (RB.out wl (grown_tr G13.out G.out)).1 hy
                          simp only at ea
                          subst ea
                          obtain ⟨t0, t1, t2, t3, t4⟩ := cells_s r3
                          unfold inS ends at INY
                          by_cases hF : n = Fn
                          · have c0 : C = 0 := by rw [HC.out, if_neg (by omega)]
                            subst c0
                            have ey : y = S := by have h1 := FA.out.1; rw [← hF, hy] at h1; injection h1
                            subst ey
                            rw [decide_eq_true hF] at INY
                            simp only [Bool.and_eq_true, Bool.not_eq_true'] at INY
                            have LF : Op.bytesLess key.toList y.fr.toList = false := INY.1
                            obtain ⟨s0, s1, s2, s3, s4⟩ := cells_s (X13.out wl G.out)
                            have NQ := NS.out
                            have C1 : Hid ((1 : Int) = if Fn < n + 1 then 1 else 0) := by show _ = _; rw [if_pos (by omega)]
                            cases EU : (y.up.toList == []) with
                            | true =>
                              clear INY hy r3 HC hF
                              go_wp2_with fail
                              go_quiet (fail)
                              go_wp2_with fail
                              go_roundw
                              case rel => exact ⟨n + 1, 1, by omega, rfl, C1, by go_num, grown_drewN G.out _⟩
                              case measure => simp [intOf]; omega
                            | false =>
                              have LU : Op.bytesLess key.toList y.up.toList = true := by
                                have := INY.2
                                rw [EU, Bool.false_or] at this
                                exact this
                              clear INY hy r3 HC hF
                              go_wp2_with fail
                              go_quiet (fail)
                              go_wp2_with fail
                              go_roundw
                              case rel => exact ⟨n + 1, 1, by omega, rfl, C1, by go_num, grown_drewN G.out _⟩
                              case measure => simp [intOf]; omega
                          · have C1 : Hid (C = if Fn < n + 1 then 1 else 0) := by
                              show _ = _
                              rw [HC.out]
                              by_cases h : Fn < n
                              · rw [if_pos h, if_pos (by omega)]
                              · rw [if_neg h, if_neg (by omega)]
                            rw [decide_eq_false hF] at INY
                            cases LF : lt key y.fr with
                            | true =>
                              have LF : Op.bytesLess key.toList y.fr.toList = true := LF
                              clear INY hy r3 HC hF
                              go_wp2_with fail
                              go_roundw
                              case rel => exact ⟨n + 1, C, by omega, rfl, C1, by go_num, G⟩
                              case measure => simp [intOf]; omega
                            | false =>
                              rw [LF, Bool.not_false, Bool.true_and, Bool.or_eq_false_iff] at INY
                              have LF : Op.bytesLess key.toList y.fr.toList = false := LF
                              have EU : (y.up.toList == []) = false := INY.1
                              have LU : Op.bytesLess key.toList y.up.toList = false := INY.2
                              clear INY hy r3 HC hF
                              go_wp2_with fail
                              go_roundw
                              case rel => exact ⟨n + 1, C, by omega, rfl, C1, by go_num, G⟩
                              case measure => simp [intOf]; omega
                        · have c1 : C = 1 := by rw [HC.out, if_pos (by have := FA.out.2; omega)]
                          subst c1
                          go_wp2_with fail
                          go_meet
                          exact ⟨rfl, G⟩
                  case rest =>
                    obtain ⟨rfl, GE⟩ := hcut
                    rename World => w15
                    clear V0
                    go_wp2_with (first
                      | (refine load_a q2 0 B _ rfl (KB.out w15 (grown_tr G13.out GE.out)) ?_)
                      | (refine store_row (ty := 26) q 0 (aa B ⟨ya, yn, yc⟩) rfl rfl ((KA.out w15 (grown_tr G13.out GE.out)).there (by simp)) (by kernel_rfl) (by simp [Value.oneCell']) ?_; intro w16 h16; have H16 : Hid (w16 = w15.setCells q 0 (ac B ⟨ya, yn, yc⟩)) := h16; clear h16))
                    go_roundw
                    case rel => exact ⟨j + 1, B, ⟨ya, yn, yc⟩, by omega, by go_num, FIN.out w15 w16 GE H16⟩
                    case measure => simp [intOf]; omega
        · have FIN : Hid (w.grownBy wr none) := I.out.2.2.2.2.1
          clear I
          go_wp2_with fail
          go_ret
          exact ⟨rfl, grown_below FIN.out⟩
      · have FIN : Hid (w.grownBy wr none) := I.out.2.2.2.2.1
        clear I
        go_wp2_with fail
        go_ret
        exact ⟨rfl, grown_below FIN.out⟩
end atlasCovers
end Go.Proofs.Ytkidhnlombhhnaa
