/- the reference's move. -/
import Derived.Test.YtlolhdijadhklaaARef1
import Derived.Test.YtlolhdijadhklaaASmall
import Derived.Test.YtlolhdijadhklaaAStands
import Derived.Test.YtlolhdijadhklaaAMove
namespace Go.Proofs.Ytlolhdijadhklaa
open Go.RowKit Atl
set_option linter.unusedVariables false
set_option maxRecDepth 10000

/-- A move's plan, and its span. -/
def rmvB (a : Am) (s : Sp) : Bool := decide (1 ≤ a.p.gp) && (decide (a.p.gp ≤ a.g) && (decide (1 ≤ a.p.pa) && (decide (a.p.pa ≤ a.g) && (!(a.p.gp == a.p.pa) && ((a.p.ot == 0) && ((a.p.key.toList == []) && stB a.p s))))))
theorem rmvB_is (a : Am) (s : Sp) : rmvB a s = (stB a.p s && moveB a.g a.p) := by
  unfold rmvB moveB isG
  rw [Bool.eq_iff_iff]
  simp only [Bool.and_eq_true, decide_eq_true_eq, Bool.not_eq_true', beq_eq_false_iff_ne, beq_iff_eq]
  constructor
  · rintro ⟨h1, h2, h3, h4, h5, h6, h7, h8⟩; exact ⟨h8, ⟨⟨⟨h5, h1, h2⟩, h3, h4⟩, h6⟩, h7⟩
  · rintro ⟨h8, ⟨⟨⟨h5, h1, h2⟩, h3, h4⟩, h6⟩, h7⟩; exact ⟨h1, h2, h3, h4, h5, h6, h7, h8⟩
set_option maxRecDepth 100000 in
set_option maxHeartbeats 12800000 in
theorem rmove_any (a : Am) (u : S3) (s : Sp) (hk : a.p.k = 1) (e1 : 1 ≤ s.ep) (e2 : s.ep ≤ 1099511627776) (w : World) : Calls Try.prog 47 #[av a u, sv s] w fun e w' => e = .returned (.bool (rmvB a s)) ∧ w.grownBy w' none := by
  have HK : Hid (a.p.k = 1) := hk
  have w1 : IntKind.i64.wrap (s.ep - 1) = s.ep - 1 := by rw [IntKind.wrap_i64]; omega
  have w2 : IntKind.i64.wrap (s.ep - 2) = s.ep - 2 := by rw [IntKind.wrap_i64]; omega
  clear hk e1 e2
  obtain ⟨W1, hW1⟩ : ∃ W1, W1 = ((w.alloc (.cells (aa a u) 26)).alloc (.cells (sa s) 29)).alloc (.cells (pa a.p) 24) := ⟨_, rfl⟩
  obtain ⟨Q, hQ⟩ : ∃ Q, Q = w.heap.size := ⟨_, rfl⟩
  have hq1 : (w.alloc (.cells (aa a u) 26)).heap.size = Q + 1 := by rw [hQ]; simp
  have hq2 : ((w.alloc (.cells (aa a u) 26)).alloc (.cells (sa s) 29)).heap.size = Q + 2 := by rw [hQ]; simp
  have t1 : ∀ (x : World) o, x.grownBy (x.alloc o) none := fun x o => World.grownBy_alloc _ _ none
  have G1 : Hid (w.grownBy W1 none) := by rw [hW1]; exact grown_tr (t1 _ _) (grown_tr (t1 _ _) (t1 _ _))
  have CA : W1.rangeAt Q 0 (ac a u) := by rw [hW1, hQ]; exact (cs_new (grown_tr (t1 _ _) (t1 _ _))).1
  have CS : W1.rangeAt (Q + 1) 0 (sc s) := by rw [hW1, ← hq1]; exact (cs_new (t1 _ _)).1
  have CP : W1.rangeAt (Q + 2) 0 (pc a.p) := by rw [hW1, ← hq2]; exact (cs_new (grown_refl _ _)).1
  have PI : Hid (((w.alloc (.cells (aa a u) 26)).alloc (.cells (sa s) 29)).rangeAt w.heap.size 3 (pc a.p)) := plan_in (cs_new (t1 _ _)).1
  have HW1 : Hid (W1 = _) := hW1
  have HQ : Hid (Q = w.heap.size) := hQ
  obtain ⟨a0, _, _, _⟩ := cells_a CA
  obtain ⟨s0, s1, s2, s3, s4⟩ := cells_s CS
  obtain ⟨b0, b1, b2, b3, b4, b5, b6, b7⟩ := cells_p CP
  simp only [Nat.zero_add] at s0 s1 s2 s3 s4 b0 b1 b2 b3 b4 b5 b6 b7
  clear hW1 hq1 hq2 hQ t1 CA CS CP s0 s1 s2
  generalize hB : rmvB a s = B
  unfold rmvB at hB
  have HB : Hid ((decide (1 ≤ a.p.gp) && (decide (a.p.gp ≤ a.g) && (decide (1 ≤ a.p.pa) && (decide (a.p.pa ≤ a.g) && (!(a.p.gp == a.p.pa) && ((a.p.ot == 0) && ((a.p.key.toList == []) && stB a.p s)))))))= B) := hB
  clear hB
  cases h0 : decide (1 ≤ a.p.gp) with
  | false =>
    have p0 : a.p.gp < 1 := by simpa using h0
    have E : Hid (false = B) := by have := HB.out; rw [h0] at this; show _ = _; simpa using this
    go_enter Try.func47, Try.ntmps47
    go_upto_region 2 with (refine load_p w.heap.size 3 a.p rfl PI.out ?_)
    rw [← HQ.out, ← HW1.out]
    go_wp2_with fail
    go_ret
    exact ⟨by rw [← E.out]; rfl, G1.out⟩
  | true =>
    have p0 : ¬ a.p.gp < 1 := by simp at h0; omega
    cases h1 : decide (a.p.gp ≤ a.g) with
    | false =>
      have p1 : a.g < a.p.gp := by simpa using h1
      have E : Hid (false = B) := by have := HB.out; rw [h0, h1] at this; show _ = _; simpa using this
      go_enter Try.func47, Try.ntmps47
      go_upto_region 2 with (refine load_p w.heap.size 3 a.p rfl PI.out ?_)
      rw [← HQ.out, ← HW1.out]
      go_wp2_with fail
      go_ret
      exact ⟨by rw [← E.out]; rfl, G1.out⟩
    | true =>
      have p1 : ¬ a.g < a.p.gp := by simp at h1; omega
      cases h2 : decide (1 ≤ a.p.pa) with
      | false =>
        have p2 : a.p.pa < 1 := by simpa using h2
        have E : Hid (false = B) := by have := HB.out; rw [h0, h1, h2] at this; show _ = _; simpa using this
        go_enter Try.func47, Try.ntmps47
        go_upto_region 2 with (refine load_p w.heap.size 3 a.p rfl PI.out ?_)
        rw [← HQ.out, ← HW1.out]
        go_wp2_with fail
        go_ret
        exact ⟨by rw [← E.out]; rfl, G1.out⟩
      | true =>
        have p2 : ¬ a.p.pa < 1 := by simp at h2; omega
        cases h3 : decide (a.p.pa ≤ a.g) with
        | false =>
          have p3 : a.g < a.p.pa := by simpa using h3
          have E : Hid (false = B) := by have := HB.out; rw [h0, h1, h2, h3] at this; show _ = _; simpa using this
          go_enter Try.func47, Try.ntmps47
          go_upto_region 2 with (refine load_p w.heap.size 3 a.p rfl PI.out ?_)
          rw [← HQ.out, ← HW1.out]
          go_wp2_with fail
          go_ret
          exact ⟨by rw [← E.out]; rfl, G1.out⟩
        | true =>
          have p3 : ¬ a.g < a.p.pa := by simp at h3; omega
          cases h4 : !(a.p.gp == a.p.pa) with
          | false =>
            have p4 : (a.p.gp == a.p.pa) = true := by simpa using h4
            have E : Hid (false = B) := by have := HB.out; rw [h0, h1, h2, h3, h4] at this; show _ = _; simpa using this
            go_enter Try.func47, Try.ntmps47
            go_upto_region 2 with (refine load_p w.heap.size 3 a.p rfl PI.out ?_)
            rw [← HQ.out, ← HW1.out]
            go_wp2_with fail
            go_ret
            exact ⟨by rw [← E.out]; rfl, G1.out⟩
          | true =>
            have p4 : (a.p.gp == a.p.pa) = false := by simpa using h4
            cases h5 : (a.p.ot == 0) with
            | false =>
              have p5 : (a.p.ot != 0) = true := by simpa using h5
              have E : Hid (false = B) := by have := HB.out; rw [h0, h1, h2, h3, h4, h5] at this; show _ = _; simpa using this
              go_enter Try.func47, Try.ntmps47
              go_upto_region 2 with (refine load_p w.heap.size 3 a.p rfl PI.out ?_)
              rw [← HQ.out, ← HW1.out]
              go_wp2_with fail
              go_ret
              exact ⟨by rw [← E.out]; rfl, G1.out⟩
            | true =>
              have p5 : (a.p.ot != 0) = false := by simpa using h5
              cases h6 : (a.p.key.toList == []) with
              | false =>
                have p6 : (!a.p.key.toList.isEmpty) = true := by simpa using h6
                have E : Hid (false = B) := by have := HB.out; rw [h0, h1, h2, h3, h4, h5, h6] at this; show _ = _; simpa using this
                go_enter Try.func47, Try.ntmps47
                go_upto_region 2 with (refine load_p w.heap.size 3 a.p rfl PI.out ?_)
                rw [← HQ.out, ← HW1.out]
                go_wp2_with fail
                go_ret
                exact ⟨by rw [← E.out]; rfl, G1.out⟩
              | true =>
                have p6 : (!a.p.key.toList.isEmpty) = false := by simpa using h6
                have E : Hid (stB a.p s = B) := by have := HB.out; rw [h0, h1, h2, h3, h4, h5, h6] at this; show _ = _; simpa using this
                clear HB h0 h1 h2 h3 h4 h5 h6
                cases c1 : (a.p.ph == 1) with
                | true =>
                  have c1O : Hid (a.p.ph = 1) := by have := c1; show _ = _; simpa using this
                  cases c9 : (s.gr == a.p.pa) with
                  | true =>
                    have c9O : Hid (s.gr = a.p.pa) := by have := c9; show _ = _; simpa using this
                    go_enter Try.func47, Try.ntmps47
                    go_upto_region 2 with (refine load_p w.heap.size 3 a.p rfl PI.out ?_)
                    rw [← HQ.out, ← HW1.out]
                    go_wp2_with fail
                    go_ret
                    exact ⟨ret_bool (by rw [← E.out, Bool.eq_iff_iff]; unfold stB; simp [HK.out, c1O.out, c9O.out] <;> omega), G1.out⟩
                  | false =>
                    have c9O : Hid (¬ s.gr = a.p.pa) := by have := c9; show ¬ _; simpa using this
                    go_enter Try.func47, Try.ntmps47
                    go_upto_region 2 with (refine load_p w.heap.size 3 a.p rfl PI.out ?_)
                    rw [← HQ.out, ← HW1.out]
                    go_wp2_with fail
                    go_ret
                    exact ⟨ret_bool (by rw [← E.out, Bool.eq_iff_iff]; unfold stB; simp [HK.out, c1O.out, c9O.out] <;> omega), G1.out⟩
                | false =>
                  have c1O : Hid (¬ a.p.ph = 1) := by have := c1; show ¬ _; simpa using this
                  cases c2 : (a.p.ph == 2) with
                  | true =>
                    have c2O : Hid (a.p.ph = 2) := by have := c2; show _ = _; simpa using this
                    cases c9 : (s.gr == a.p.gp) with
                    | true =>
                      have c9O : Hid (s.gr = a.p.gp) := by have := c9; show _ = _; simpa using this
                      go_enter Try.func47, Try.ntmps47
                      go_upto_region 2 with (refine load_p w.heap.size 3 a.p rfl PI.out ?_)
                      rw [← HQ.out, ← HW1.out]
                      go_wp2_with fail
                      go_ret
                      exact ⟨ret_bool (by rw [← E.out, Bool.eq_iff_iff]; unfold stB; simp [HK.out, c2O.out, c9O.out] <;> omega), G1.out⟩
                    | false =>
                      have c9O : Hid (¬ s.gr = a.p.gp) := by have := c9; show ¬ _; simpa using this
                      go_enter Try.func47, Try.ntmps47
                      go_upto_region 2 with (refine load_p w.heap.size 3 a.p rfl PI.out ?_)
                      rw [← HQ.out, ← HW1.out]
                      go_wp2_with fail
                      go_ret
                      exact ⟨ret_bool (by rw [← E.out, Bool.eq_iff_iff]; unfold stB; simp [HK.out, c2O.out, c9O.out] <;> omega), G1.out⟩
                  | false =>
                    have c2O : Hid (¬ a.p.ph = 2) := by have := c2; show ¬ _; simpa using this
                    cases c3 : (a.p.ph == 3) with
                    | true =>
                      have c3O : Hid (a.p.ph = 3) := by have := c3; show _ = _; simpa using this
                      cases c9 : (s.gr == a.p.gp) with
                      | true =>
                        have c9O : Hid (s.gr = a.p.gp) := by have := c9; show _ = _; simpa using this
                        go_enter Try.func47, Try.ntmps47
                        go_upto_region 2 with (refine load_p w.heap.size 3 a.p rfl PI.out ?_)
                        rw [← HQ.out, ← HW1.out]
                        go_wp2_with fail
                        go_ret
                        exact ⟨ret_bool (by rw [← E.out, Bool.eq_iff_iff]; unfold stB; simp [HK.out, c3O.out, c9O.out] <;> omega), G1.out⟩
                      | false =>
                        have c9O : Hid (¬ s.gr = a.p.gp) := by have := c9; show ¬ _; simpa using this
                        go_enter Try.func47, Try.ntmps47
                        go_upto_region 2 with (refine load_p w.heap.size 3 a.p rfl PI.out ?_)
                        rw [← HQ.out, ← HW1.out]
                        go_wp2_with fail
                        go_ret
                        exact ⟨ret_bool (by rw [← E.out, Bool.eq_iff_iff]; unfold stB; simp [HK.out, c3O.out, c9O.out] <;> omega), G1.out⟩
                    | false =>
                      have c3O : Hid (¬ a.p.ph = 3) := by have := c3; show ¬ _; simpa using this
                      cases c4 : (a.p.ph == 9) with
                      | true =>
                        have c4O : Hid (a.p.ph = 9) := by have := c4; show _ = _; simpa using this
                        cases c9 : (s.gr == a.p.pa) with
                        | true =>
                          have c9O : Hid (s.gr = a.p.pa) := by have := c9; show _ = _; simpa using this
                          go_enter Try.func47, Try.ntmps47
                          go_upto_region 2 with (refine load_p w.heap.size 3 a.p rfl PI.out ?_)
                          rw [← HQ.out, ← HW1.out]
                          go_wp2_with fail
                          go_ret
                          exact ⟨ret_bool (by rw [← E.out, Bool.eq_iff_iff]; unfold stB; simp [HK.out, c4O.out, c9O.out] <;> omega), G1.out⟩
                        | false =>
                          have c9O : Hid (¬ s.gr = a.p.pa) := by have := c9; show ¬ _; simpa using this
                          go_enter Try.func47, Try.ntmps47
                          go_upto_region 2 with (refine load_p w.heap.size 3 a.p rfl PI.out ?_)
                          rw [← HQ.out, ← HW1.out]
                          go_wp2_with fail
                          go_ret
                          exact ⟨ret_bool (by rw [← E.out, Bool.eq_iff_iff]; unfold stB; simp [HK.out, c4O.out, c9O.out] <;> omega), G1.out⟩
                      | false =>
                        have c4O : Hid (¬ a.p.ph = 9) := by have := c4; show ¬ _; simpa using this
                        go_enter Try.func47, Try.ntmps47
                        go_upto_region 2 with (refine load_p w.heap.size 3 a.p rfl PI.out ?_)
                        rw [← HQ.out, ← HW1.out]
                        go_wp2_with fail
                        go_ret
                        exact ⟨ret_bool (by rw [← E.out, Bool.eq_iff_iff]; unfold stB; simp [HK.out, c1O.out, c2O.out, c3O.out, c4O.out] <;> omega), G1.out⟩

end Go.Proofs.Ytlolhdijadhklaa
