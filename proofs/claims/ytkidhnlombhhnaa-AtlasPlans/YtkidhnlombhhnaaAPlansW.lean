/- A plan that begins changes no span, keeps others out, and comes to its end in three phases: the walk of the statement. -/
import Derived.Test.YtkidhnlombhhnaaAAwake
import Derived.Test.YtkidhnlombhhnaaAPlansM
import Derived.Test.YtkidhnlombhhnaaASame
import Derived.Test.YtkidhnlombhhnaaAArgs
namespace Go.Proofs.Ytkidhnlombhhnaa
open Go.RowKit Atl
set_option linter.unusedVariables false
set_option maxRecDepth 10000

namespace atlasPlans
set_option maxRecDepth 100000 in
set_option maxHeartbeats 64000000 in
theorem walk (w : World) (v0 : Value) (o0 : ∃ (a : Am) (u : S3), v0 = av a u ∧ Rat w a u ∧ Szm a) (v1 : Value) (o1 : ∃ p : Pl, v1 = pv p ∧ p.key.size ≤ 140737488351232) (v2 : Value) (o2 : ∃ p : Pl, v2 = pv p ∧ p.key.size ≤ 140737488351232) :
    Calls Try.prog 8 #[v0, v1, v2] w fun e w' => e = .returned (.bool true) ∧ Below w.heap.size w w' := by
  obtain ⟨a, u, rfl, hr, hz⟩ := o0
  obtain ⟨p, rfl, hp⟩ := o1
  obtain ⟨q, rfl, hq⟩ := o2
  have AW : Hid (∀ W, _) := fun W => awake_any W
  have BA : Hid (∀ W, w.grownBy W none → Calls Try.prog 17 #[av a u, pv p] W fun e w' => Res W (begM a p) (begE a p) e w') := fun W g => begin_any a u p W (hr.grown g) hz hp
  have BB : Hid (∀ (M : Am) v W, Rgt M → Rat W M v → Calls Try.prog 17 #[av M v, pv q] W fun e w' => Res W (begM M q) (begE M q) e w') := fun M v W h r => begin_any M v q W r (szm_of h) hq
  have AV : Hid (∀ (M : Am) v W, Rgt M → peq M.p zP = false → Rat W M v → Calls Try.prog 19 #[av M v, .int .i64 M.p.ph] W fun e w' => Res W (Atl.step M) 0 e w') := fun M v W h hp r => by
    have := advance_any M v M.p.ph W r (szm_of h)
    rwa [(adv_on h hp).1, (adv_on h hp).2] at this
  have RA : Hid (∀ W, w.grownBy W none → Rat W a u) := fun W g => hr.grown g
  have ON : Hid (begE a p = 0 → Rgt (begM a p) ∧ (begM a p).l = a.l ∧ peq (begM a p).p zP = false) := fun h => beg_on (beg_right h) h
  obtain ⟨W0, hW0⟩ : ∃ W0, W0 = ((w.alloc (.cells (aa a u) 26)).alloc (.cells (pa p) 24)).alloc (.cells (pa q) 24) := ⟨_, rfl⟩
  have s1 : (w.alloc (.cells (aa a u) 26)).heap.size = w.heap.size + 1 := by simp
  have s2 : ((w.alloc (.cells (aa a u) 26)).alloc (.cells (pa p) 24)).heap.size = w.heap.size + 2 := by simp
  have t1 : ∀ (x : World) o, x.grownBy (x.alloc o) none := fun x o => World.grownBy_alloc _ _ none
  have G0 : Hid (w.grownBy W0 none) := by rw [hW0]; exact grown_tr (t1 _ _) (grown_tr (t1 _ _) (t1 _ _))
  have CA : Hid (∀ W, W0.grownBy W none → W.rangeAt w.heap.size 0 (ac a u)) := fun W g => by rw [hW0] at g; exact (cs_new (grown_tr (t1 _ _) (grown_tr (t1 _ _) g))).1
  have CP : Hid (∀ W, W0.grownBy W none → W.rangeAt (w.heap.size + 1) 0 (pc p)) := fun W g => by
    rw [hW0] at g
    have := (cs_new (grown_tr (t1 _ _) g)).1
    rwa [s1] at this
  have CQ : Hid (∀ W, W0.grownBy W none → W.rangeAt (w.heap.size + 2) 0 (pc q)) := fun W g => by
    rw [hW0] at g
    have := (cs_new g).1
    rwa [s2] at this
  have HW0 : Hid (W0 = _) := hW0
  have H0 : Hid (w.heap.size + 3 ≤ W0.heap.size) := by
    have sz : ∀ (x : World) o, (x.alloc o).heap.size = x.heap.size + 1 := fun x o => by simp
    show _ ≤ _
    rw [hW0, sz, s2]
    omega
  clear hW0 s1 s2 t1 hr hz hp hq
  go_enter Try.func8, Try.ntmps8
  go_upto_region 1 with fail
  rw [← HW0.out]
  go_upto_region 4 with (first
    | (go_at_call 9; (with_reducible refine (AW.out _).mono ?_); rintro e w1 ⟨rfl, g1⟩)
    | (refine load_a w.heap.size 0 a u rfl (CA.out w1 g1) ?_)
    | (refine load_p (w.heap.size + 1) 0 p rfl (CP.out w1 g1) ?_)
    | (go_at_call 17; (with_reducible refine (BA.out _ (grown_tr G0.out g1)).mono ?_); rintro e w2 ⟨u2, rfl, r2, g2, b2⟩))
  generalize hM : begM a p = M at *
  generalize hE : begE a p = E at *
  have GV : Hid (W0.grownBy (w2.alloc (.cells (aa M u2) 26)) none) := grown_alloc (grown_tr g1 g2) _
  have CM : Hid (∀ W, (w2.alloc (.cells (aa M u2) 26)).grownBy W none → Cs W w2.heap.size (ac M u2)) := fun W g => cs_new g
  have RM : Hid (∀ W, (w2.alloc (.cells (aa M u2) 26)).grownBy W none → Rat W M u2) := fun W g => r2.grown (grown_tr (World.grownBy_alloc _ _ none) g)
  have HQ3 : Hid (w.heap.size + 3 ≤ w2.heap.size ∧ w2.heap.size < (w2.alloc (.cells (aa M u2) 26)).heap.size) := (⟨by have := H0.out; have := g1.size; have := g2.size; omega, by simp⟩ : _ ∧ _)
  have OWN : Hid (Rgt M → ∀ k, (Value.slice u2.a u2.n u2.c).ownBlock = some k → k < w2.heap.size) := fun h => r2.1.lt (by intro e; have := h.n1; rw [e] at this; simp at this)
  clear AW BA r2 g1 g2 b2 CP hM hE
  generalize w2.alloc (.cells (aa M u2) 26) = v2 at *
  generalize w2.heap.size = q3 at *
  cases he : (E != 0) with
  | true =>
    have he2 : (E == 0) = false := by simpa using he
    go_wp2_with fail
    go_ret
    exact ⟨rfl, grown_below (grown_tr G0.out GV.out)⟩
  | false =>
    have e0 : E = 0 := by simpa using he
    have he2 : (E == 0) = true := by simpa using he
    obtain ⟨RG, HL, HP⟩ := ON.out e0
    clear e0 ON
    have HR : Hid (Rgt M) := RG
    have HPP : Hid (peq M.p zP = false) := HP
    have OWN := OWN.out RG
    have OWN : Hid (∀ k, (Value.slice u2.a u2.n u2.c).ownBlock = some k → k < q3) := OWN
    have ea := (RA.out w (grown_refl _ _)).2.1
    have eb := (RM.out v2 (grown_refl _ _)).2.1
    have n16 := RG.n16
    rw [HL] at eb n16
    have XA : Hid (∀ W, W0.grownBy W none → eS.Rx W (.slice u.a u.n u.c) a.l) := fun W g => (RA.out W (grown_tr G0.out g)).1
    have XM : Hid (∀ W, v2.grownBy W none → eS.Rx W (.slice u2.a u2.n u2.c) a.l) := fun W g => by have := (RM.out W g).1; rwa [HL] at this
    obtain ⟨N, hN⟩ : ∃ N, a.l.length = N := ⟨_, rfl⟩
    have NL : Hid (a.l.length = N) := hN
    rw [hN] at ea eb n16
    obtain ⟨ua, un, uc⟩ := u
    obtain ⟨va, vn, vc⟩ := u2
    simp only at ea eb XA XM CA CM RM HW0
    subst ea
    have eb' := eb
    subst eb'
    have NS : Hid (∀ (s : Sp) W, (binOp .neq 29 (sv s) (sv s)).run Try.prog W = .ok (.bool false) W) := fun s W => by
      have := neq_span s s W
      rwa [seq_self] at this
    have a2 := (cells_a (CA.out v2 GV.out)).2.2.1
    have m2 := (cells_a (CM.out v2 (grown_refl _ _)).1).2.2.1
    have G1 : Hid (v2.grownBy v2 none) := grown_refl _ _
    clear RG HL HP hN RA
    go_upto_region 9 with fail
    go_loopw [9] (fun i wr => ∃ j : Nat, j ≤ vn ∧ i = .int .i64 (j : Int) ∧ Hid (v2.grownBy wr none)) (fun i _ => vn - (intOf i).toNat)
    case atStart => exact ⟨0, by omega, rfl, G1⟩
    case round =>
      clear a2 m2 G1
      obtain ⟨j, hj, rfl, G⟩ := hrel
      have a2 := (cells_a (CA.out wr (grown_tr GV.out G.out))).2.2.1
      have m2 := (cells_a (CM.out wr G.out).1).2.2.1
      by_cases hlt : j < vn
      · obtain ⟨s, hy⟩ : ∃ y, a.l[j]? = some y := ⟨_, List.getElem?_eq_getElem (by rw [NL.out]; exact hlt)⟩
        obtain ⟨g1, o1, e1, r1⟩ := range_at (XA.out wr (grown_tr GV.out G.out)) hy
        obtain ⟨g2, o2, e2, r2⟩ := range_at (XM.out wr G.out) hy
        obtain ⟨p0, p1, p2, p3, p4⟩ := cells_s r1
        obtain ⟨q0, q1, q2, q3', q4⟩ := cells_s r2
        have NQ := NS.out s
        subst e1 e2
        clear hy r1 r2
        go_wp2_with fail
        go_quiet (fail)
        go_wp2_with fail
        go_roundw
        case rel => exact ⟨j + 1, by omega, by go_num, grown_drewN G.out _⟩
        case measure => simp [intOf]; omega
      · clear NS XA XM
        have BQ := BB.out M ⟨va, vn, vc⟩ wr HR.out (RM.out wr G.out)
        rw [(beg_busy HR.out HPP.out q).1, (beg_busy HR.out HPP.out q).2] at BQ
        go_upto_region 14 with (first
          | (refine load_a q3 0 M _ rfl (CM.out wr G.out).1 ?_)
          | (refine load_p (w.heap.size + 2) 0 q rfl (CQ.out wr (grown_tr GV.out G.out)) ?_)
          | (go_at_call 17; (with_reducible refine BQ.mono ?_); rintro e w5 ⟨u5, rfl, r5, g5, b5⟩))
        have G5 : Hid (v2.grownBy (w5.alloc (.cells (aa M u5) 26)) none) := grown_alloc (grown_tr G.out g5) _
        have C5 : Hid ((w5.alloc (.cells (aa M u5) 26)).rangeAt w5.heap.size 0 (ac M u5)) := box_a (grown_refl _ _)
        have R5 : Hid (Rat (w5.alloc (.cells (aa M u5) 26)) M u5) := r5.grown (World.grownBy_alloc _ _ none)
        clear r5 g5 b5 BB CQ m2 a2
        generalize w5.alloc (.cells (aa M u5) 26) = v5 at *
        generalize w5.heap.size = q5 at *
        have SM := same_any M ⟨va, vn, vc⟩ u5 v5 (RM.out v5 G5.out) R5.out
        go_upto_region 17 with (first
          | (refine load_ag q3 0 M _ (by rfl) rfl (CM.out v5 G5.out).1 ?_)
          | (refine load_ag q5 0 M u5 (by rfl) rfl C5.out ?_)
          | (go_at_call 16; (with_reducible refine SM.mono ?_); rintro e w6 ⟨rfl, g6⟩))
        have S6 : Hid (Rgt M ∧ left M + 0 ≤ 3 ∧ Cs w6 q3 (ac M ⟨va, vn, vc⟩) ∧ Rat w6 M ⟨va, vn, vc⟩ ∧ (∀ k, (Value.slice va vn vc).ownBlock = some k → k ≠ q3) ∧ w.grownBy w6 none ∧ q3 < w6.heap.size) := (⟨HR.out, left_le M, CM.out w6 (grown_tr G5.out g6), RM.out w6 (grown_tr G5.out g6), fun k e => Nat.ne_of_lt (OWN.out k e), grown_tr G0.out (grown_tr GV.out (grown_tr G5.out g6)), by have h1 := HQ3.out.2; have h2 := G5.out.size; have h3 := g6.size; omega⟩ : _ ∧ _)
        clear CM RM SM g6 C5 R5 G5 CA HR HPP OWN G
        go_loopw [12, 13, 14] (fun n _ _ wr => ∃ (i : Nat) (K : Am) (v : S3), i ≤ 3 ∧ n = .int .i64 (i : Int) ∧ Hid (Rgt K ∧ left K + i ≤ 3 ∧ Cs wr q3 (ac K v) ∧ Rat wr K v ∧ (∀ k, (Value.slice v.a v.n v.c).ownBlock = some k → k ≠ q3) ∧ w.grownBy wr none ∧ q3 < wr.heap.size)) (fun n _ _ _ => 3 - (intOf n).toNat)
        case atStart => exact ⟨0, M, ⟨va, vn, vc⟩, by omega, rfl, S6⟩
        case round =>
          clear S6
          obtain ⟨i, K, v, hi, rfl, I⟩ := hrel
          obtain ⟨k1, k2, k3, k4, k5, k6, k7⟩ := I.out
          obtain ⟨_, _, _, x3, x4, _⟩ := cells_a k3.1
          have KZ := kind_zero k1
          have HC : Hid (Cs wr q3 (ac K v)) := k3
          have HG : Hid (w.grownBy wr none) := k6
          have HS : Hid (q3 < wr.heap.size ∧ w.heap.size + 3 ≤ q3) := (⟨k7, HQ3.out.1⟩ : _ ∧ _)
          by_cases hlt : i < 3
          · cases hp : peq K.p zP with
            | true =>
              rw [hp] at KZ
              clear I k1 k2 k3 k4 k5 k6 k7 AV hp
              go_wp2_with fail
              go_ret
              exact ⟨rfl, grown_below HG.out⟩
            | false =>
              rw [hp] at KZ
              have AD := AV.out K v wr k1 hp k4
              have NR : Hid (Rgt (Atl.step K)) := rgt_step k1 hp
              have NL2 : Hid (left (Atl.step K) + (i + 1) ≤ 3) := by have := left_step k1 hp; show _ ≤ _; omega
              clear I k1 k2 k3 k4 k5 k6 k7 hp
              go_upto_region 24 with (first
                | (refine load_a q3 0 K v rfl HC.out.1 ?_)
                | (go_at_call 19; (with_reducible refine AD.mono ?_); rintro e w7 ⟨u7, rfl, r7, g7, b7⟩))
              have X7 : Hid ((w7.alloc (.cells (aa (Atl.step K) u7) 26)).rangeAt w7.heap.size 0 (ac (Atl.step K) u7)) := box_a (grown_refl _ _)
              have C7 : Hid (Cs (w7.alloc (.cells (aa (Atl.step K) u7) 26)) q3 (ac K v)) := HC.out.grown (grown_alloc g7 _) HS.out.1
              have R7 : Hid (Rat (w7.alloc (.cells (aa (Atl.step K) u7) 26)) (Atl.step K) u7) := r7.grown (World.grownBy_alloc _ _ none)
              have G7 : Hid (w.grownBy (w7.alloc (.cells (aa (Atl.step K) u7) 26)) none) := grown_alloc (grown_tr HG.out g7) _
              have S7 : Hid (q3 < (w7.alloc (.cells (aa (Atl.step K) u7) 26)).heap.size) := by have h1 := HS.out.1; have h2 := g7.size; show _ < _; simp; omega
              have B7 : Hid (∀ k, (Value.slice u7.a u7.n u7.c).ownBlock = some k → k ≠ q3) := fun k e => by have h1 := b7 k e; have h2 := HS.out.1; omega
              clear r7 g7 b7 HC x3 x4
              generalize w7.alloc (.cells (aa (Atl.step K) u7) 26) = v7 at *
              generalize w7.heap.size = q7 at *
              go_wp2_with (first
                | (refine load_a q7 0 (Atl.step K) u7 rfl X7.out ?_)
                | (refine store_row (ty := 26) q3 0 (aa (Atl.step K) u7) rfl rfl (C7.out.there (by simp)) (by kernel_rfl) (by simp [Value.oneCell']) ?_; intro w9 h9; have H9 : Hid (w9 = v7.setCells q3 0 (ac (Atl.step K) u7)) := h9; clear h9))
              go_roundw
              case rel =>
                have gs := grown_setCells q3 (ac (Atl.step K) u7) 0 v7
                refine ⟨i + 1, Atl.step K, u7, by omega, by go_num, (⟨NR.out, NL2.out, ?_, ?_, B7.out, ?_, ?_⟩ : _ ∧ _)⟩
                · rw [H9.out]; exact C7.out.sets _ rfl
                · rw [H9.out]; exact R7.out.kept (Chg.of (F := fun k => k = q3) gs (fun k e => by injection e with e; exact e.symm)) (fun _ k hk => B7.out k hk)
                · rw [H9.out]; exact grown_more G7.out gs (fun k e => .inr (by injection e with e; have := HS.out.2; omega))
                · rw [H9.out, setCells_size]; exact S7.out
              case measure => simp [intOf]; omega
          · have e3 : left K = 0 := by omega
            rw [left_zero e3] at KZ
            clear I k1 k2 k3 k4 k5 k6 k7 AV e3
            go_wp2_with fail
            go_ret
            exact ⟨rfl, grown_below HG.out⟩
end atlasPlans
end Go.Proofs.Ytkidhnlombhhnaa
