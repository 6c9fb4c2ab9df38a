/- Where a way leads. -/
import Derived.Test.YtlolhdijadhklaaOCheck
import Derived.Test.YtlolhdijadhklaaAFind
namespace Go.Proofs.Ytlolhdijadhklaa
open Go.RowKit Atl
set_option linter.unusedVariables false
set_option maxRecDepth 10000

def whr (r : Wy) : Int × Int × Int × Int := if way r = false then (0, 0, 0, 0) else if r.f = true then (0, r.nd, 0, 0) else ((findS r.m r.nm).gr, r.nd, (findS r.m r.nm).sh, (findS r.m r.nm).ep)
theorem results_tmp4 {fn : Func} {t u v x : Tmp} (h : fn.results = #[.tmp t, .tmp u, .tmp v, .tmp x]) (tmps : Array Value) (P : Program) (w : World) :
    (results fn tmps).run P w = .ok (.tuple #[tmps.getD t undef, tmps.getD u undef, tmps.getD v undef, tmps.getD x undef]) w := by
  simp [results, h]
set_option maxRecDepth 100000 in
set_option maxHeartbeats 6400000 in
theorem where_any (r : Wy) (w : World) (h : Rdw w r) : Calls Try.prog 34 #[rv r] w fun e w' => e = .returned (.tuple #[.int .i64 (whr r).1, .int .i64 (whr r).2.1, .int .i64 (whr r).2.2.1, .int .i64 (whr r).2.2.2]) ∧ w.grownBy w' none := by
  have WY : Hid (∀ W, w.grownBy W none → _) := fun W g => way_any r W (h.grown g)
  have FI : Hid (∀ W, w.grownBy W none → _) := fun W g => find_any r.m r.u r.nm W (h.m.grown g) h.z h.k
  obtain ⟨W0, hW0⟩ : ∃ W0, W0 = w.alloc (.cells (ra r) 60) := ⟨_, rfl⟩
  have G0 : Hid (w.grownBy W0 none) := by rw [hW0]; exact World.grownBy_alloc _ _ none
  have CA : Hid (∀ W, W0.grownBy W none → W.rangeAt w.heap.size 0 (rc r)) := fun W g => by rw [hW0] at g; exact (cs_new g).1
  have CF : Hid (∀ W, W0.grownBy W none → W.cell? ⟨w.heap.size, 13, none⟩ = some (.bool r.f)) := fun W g => CA.out W g 13 _ rfl
  have CN : Hid (∀ W, W0.grownBy W none → W.cell? ⟨w.heap.size, 14, none⟩ = some (.int .i64 r.nd)) := fun W g => CA.out W g 14 _ rfl
  have CM : Hid (∀ W, W0.grownBy W none → W.cell? ⟨w.heap.size, 1, none⟩ = some (.string r.nm)) := fun W g => CA.out W g 1 _ rfl
  have HW0 : Hid (W0 = _) := hW0
  clear hW0 h
  unfold whr
  generalize findS r.m r.nm = S at *
  generalize findB r.m r.nm = fb at *
  generalize way r = b1 at *
  cases b1
  · go_enter Try.func34, Try.ntmps34
    go_upto_region 1 with fail
    rw [← HW0.out]
    go_wp2_with (first
      | (refine load_r rfl rfl w.heap.size 0 r rfl (CA.out W0 (grown_refl _ _)) ?_)
      | (go_at_call 65; (with_reducible refine (WY.out _ G0.out).mono ?_); rintro e w1 ⟨rfl, g1⟩))
    refine bodyPost_ret (results_tmp4 rfl _ _ _) rfl ?_
    exact ⟨rfl, grown_tr G0.out g1⟩
  · cases hf : r.f
    · have HF : Hid (r.f = false) := hf
      clear hf
      go_enter Try.func34, Try.ntmps34
      go_upto_region 1 with fail
      rw [← HW0.out]
      go_upto_region 6 with (first
        | (refine load_r rfl rfl w.heap.size 0 r rfl (CA.out W0 (grown_refl _ _)) ?_)
        | (go_at_call 65; (with_reducible refine (WY.out _ G0.out).mono ?_); rintro e w1 ⟨rfl, g1⟩; have c13 := CF.out w1 g1; rw [HF.out] at c13; have c1 := CM.out w1 g1)
        | (refine ld_a rfl rfl w.heap.size 2 r.m r.u rfl (map_in (CA.out w1 g1)) ?_)
        | (go_at_call 10; (with_reducible refine (FI.out _ (grown_tr G0.out g1)).mono ?_); rintro e w2 ⟨rfl, g2⟩))
      have G3 : Hid (W0.grownBy (w2.alloc (.cells (sa S) 29)) none) := grown_alloc (grown_tr g1 g2) _
      have X3 : Hid (∀ W, (w2.alloc (.cells (sa S) 29)).grownBy W none → W.rangeAt w2.heap.size 0 (sc S)) := fun W g => (box_s g).1
      clear g1 g2 c13 c1 WY FI HW0
      generalize w2.alloc (.cells (sa S) 29) = v3 at *
      generalize w2.heap.size = q7 at *
      obtain ⟨s0, s1, s2, s3, s4⟩ := cells_s (X3.out v3 (grown_refl _ _))
      obtain ⟨t0, t1, t2, t3, t4⟩ := cells_s (X3.out v3.drew (grown_drew (grown_refl _ _)))
      have n0 := CN.out v3 G3.out
      have n1 := CN.out v3.drew (grown_drew G3.out)
      clear s0 s1 t0 t1
      go_region
      all_goals
        go_wp2_with fail
        refine bodyPost_ret (results_tmp4 rfl _ _ _) rfl ?_
        exact ⟨rfl, by first | exact grown_tr G0.out G3.out | exact grown_drew (grown_tr G0.out G3.out)⟩
    · have HF : Hid (r.f = true) := hf
      clear hf
      go_enter Try.func34, Try.ntmps34
      go_upto_region 1 with fail
      rw [← HW0.out]
      go_upto_region 4 with (first
        | (refine load_r rfl rfl w.heap.size 0 r rfl (CA.out W0 (grown_refl _ _)) ?_)
        | (go_at_call 65; (with_reducible refine (WY.out _ G0.out).mono ?_); rintro e w1 ⟨rfl, g1⟩; have c13 := CF.out w1 g1; rw [HF.out] at c13))
      have n0 := CN.out w1 g1
      have n1 := CN.out w1.drew (grown_drew g1)
      clear c13 WY FI HW0
      go_region
      all_goals
        go_wp2_with fail
        refine bodyPost_ret (results_tmp4 rfl _ _ _) rfl ?_
        exact ⟨rfl, by first | exact grown_tr G0.out g1 | exact grown_drew (grown_tr G0.out g1)⟩
end Go.Proofs.Ytlolhdijadhklaa
