/- rightPlan, Check. -/
import Derived.Test.YtlolhdijadhklaaAStands
import Derived.Test.YtlolhdijadhklaaAMove
import Derived.Test.YtlolhdijadhklaaASplitB
import Derived.Test.YtlolhdijadhklaaAMergeB
namespace Go.Proofs.Ytlolhdijadhklaa
open Go.RowKit Atl
set_option linter.unusedVariables false
set_option maxRecDepth 10000

theorem planB_some {a : Am} {s : Sp} (hs : a.l[idx a.l a.p.sh]? = some s) : planB a = (peq a.p zP || (decide (1 ≤ a.p.ep) && (mR a.p.ep && (stB a.p s && kindB a s)))) := by
  unfold planB
  rw [hs]
  simp only [Bool.and_assoc]
theorem planB_none {a : Am} (hs : a.l[idx a.l a.p.sh]? = none) : planB a = peq a.p zP := by
  unfold planB
  rw [hs]
  simp
theorem plc_some {l : List Sp} {x : Int} {s : Sp} (hs : l[idx l x]? = some s) : plc l x = (idx l x : Int) := by
  unfold plc
  rw [if_pos (List.getElem?_eq_some_iff.1 hs).1]
theorem plc_none {l : List Sp} {x : Int} (hs : l[idx l x]? = none) : plc l x = -1 := by
  unfold plc
  rw [if_neg (by have := List.getElem?_eq_none_iff.1 hs; omega)]
/-- What strings a map has. -/
def Szm (a : Am) : Prop := Szl a.l ∧ a.p.key.size ≤ 140737488351232
set_option maxRecDepth 100000 in
set_option maxHeartbeats 12800000 in
theorem plan_any (a : Am) (u : S3) (w : World) (h : Rat w a u) (hk : a.p.key.size ≤ 140737488351232) : Calls Try.prog 44 #[av a u] w fun e w' => e = .returned (.bool (planB a)) ∧ w.grownBy w' none := by
  have RA : Hid (∀ W, w.grownBy W none → Rat W a u) := fun W g => h.grown g
  have EQ : ∀ W, (binOp .eql 24 (pv a.p) (.agg #[.int .i64 0, .int .i64 0, .int .i64 0, .int .i64 0, .int .i64 0, .int .i64 0, .int .i64 0, .string ⟨#[]⟩])).run Try.prog W = .ok (.bool (peq a.p zP)) W := fun W => eql_plan a.p zP W
  have PL : Hid (∀ W, w.grownBy W none → _) := fun W g => place_any a u a.p.sh W (RA.out W g)
  obtain ⟨W1, hW1⟩ : ∃ W1, W1 = (w.alloc (.cells (aa a u) 26)).alloc (.cells (pa a.p) 24) := ⟨_, rfl⟩
  obtain ⟨Q, hQ⟩ : ∃ Q, Q = w.heap.size := ⟨_, rfl⟩
  have hq : (w.alloc (.cells (aa a u) 26)).heap.size = Q + 1 := by rw [hQ]; simp
  have G1 : Hid (w.grownBy W1 none) := by rw [hW1]; exact grown_tr (World.grownBy_alloc _ _ none) (World.grownBy_alloc _ _ none)
  have CA : Hid (∀ W, W1.grownBy W none → W.rangeAt Q 0 (ac a u)) := fun W g => by rw [hW1] at g; rw [hQ]; exact (cs_new (grown_tr (World.grownBy_alloc _ _ none) g)).1
  have CP : Hid (∀ W, W1.grownBy W none → W.rangeAt (Q + 1) 0 (pc a.p)) := fun W g => by rw [hW1] at g; rw [← hq]; exact (cs_new g).1
  have GA : Hid (w.grownBy (w.alloc (.cells (aa a u) 26)) none) := World.grownBy_alloc _ _ none
  have PI : Hid ((w.alloc (.cells (aa a u) 26)).rangeAt w.heap.size 3 (pc a.p)) := plan_in (cs_new (grown_refl _ _)).1
  have HW1 : Hid (W1 = _) := hW1
  have HQ : Hid (Q = w.heap.size) := hQ
  clear hW1 hq hQ
  obtain ⟨b0, b1, b2, b3, b4, b5, b6, b7⟩ := cells_p (CP.out W1 (grown_refl _ _))
  cases h0 : peq a.p zP with
  | true =>
    have E : planB a = true := by unfold planB; rw [h0]; rfl
    rw [E]
    rw [h0] at EQ
    clear PL h hk E RA
    go_enter Try.func44, Try.ntmps44
    go_upto_region 2 with (refine load_p w.heap.size 3 a.p rfl PI.out ?_)
    rw [← HQ.out, ← HW1.out]
    go_wp2_with (refine load_p (Q + 1) 0 a.p rfl (CP.out W1 (grown_refl _ _)) ?_)
    go_ret
    exact ⟨rfl, G1.out⟩
  | false =>
    rw [h0] at EQ
    cases hs : a.l[idx a.l a.p.sh]? with
    | none =>
      have E : planB a = false := by rw [planB_none hs, h0]
      rw [E]
      have PO := PL.out
      rw [plc_none hs] at PO
      have CQ : ∀ W, W1.grownBy W none → _ := fun W g => cells_p (CP.out W g)
      clear PL h hk E hs h0
      go_enter Try.func44, Try.ntmps44
      go_upto_region 2 with (refine load_p w.heap.size 3 a.p rfl PI.out ?_)
      rw [← HQ.out, ← HW1.out]
      go_wp2_with (first | (refine load_p (Q + 1) 0 a.p rfl (CP.out W1 (grown_refl _ _)) ?_) | (refine load_a Q 0 a u rfl (CA.out W1 (grown_refl _ _)) ?_) | (go_at_call 54; (with_reducible refine (PO _ G1.out).mono ?_); rintro e w2 ⟨rfl, g2⟩))
      obtain ⟨W2, hW2⟩ : ∃ W2, W2 = w2 := ⟨_, rfl⟩
      have G2 : W1.grownBy W2 none := by rw [hW2]; exact g2
      have zq := fun y : Gr W2 => CQ y.now (grown_tr G2 y.grown)
      have z6 := fun y : Gr W2 => (zq y).2.2.2.2.2.2.1
      have hne : Nonempty (Gr W2) := ⟨W2, grown_refl _ _⟩
      have FIN : Hid (∀ y : Gr W2, w.grownBy y.now none) := fun y => grown_tr G1.out (grown_tr G2 y.grown)
      subst hW2
      clear zq CQ PO
      refine wp_region_quiet_at (C := fun w' => ∃ y : Gr W2, w' = y.now) (by kernel_rfl) (by kernel_rfl) ⟨⟨_, grown_drewN (grown_refl _ _) 1⟩, rfl⟩ ?_
      repeat (go_big_quiet_step (fail))
      refine wpQuiet_nil ?_
      rintro _ ⟨y, rfl⟩
      go_wp2_with fail
      go_ret
      exact ⟨rfl, FIN.out y⟩
    | some s =>
      have hl := (List.getElem?_eq_some_iff.1 hs).1
      have PO := PL.out
      rw [plc_some hs] at PO
      have EB := planB_some hs
      rw [h0, Bool.false_or] at EB
      generalize hB : planB a = B
      rw [hB] at EB
      have HB : Hid ((decide (1 ≤ a.p.ep) && (mR a.p.ep && (stB a.p s && kindB a s))) = B) := EB.symm
      clear hB EB PL h0
      obtain ⟨i, hi⟩ : ∃ i, idx a.l a.p.sh = i := ⟨_, rfl⟩
      have kB : kindB a s = if a.p.k = 1 then moveB a.g a.p else if a.p.k = 2 then splitB a.la a.l a.p s else if a.p.k = 3 then mergeB a.l a.p i else false := by unfold kindB; rw [hi]
      rw [hi] at hs hl PO
      have MV : Hid (∀ W, w.grownBy W none → _) := fun W g => move_any a u W
      have SP : Hid (∀ W, w.grownBy W none → _) := fun W g => splitp_any a u i s W (RA.out W g) hs hk
      have MG : Hid (∀ W, w.grownBy W none → _) := fun W g => mergep_any a u i W (RA.out W g) hl
      have SS : Hid (∀ W, w.grownBy W none → ∃ g o, u.a = some ⟨g, o, none⟩ ∧ W.rangeAt g (o + i * 5) (sc s)) := fun W g => range_at (RA.out W g).1 hs
      have ST : Hid (∀ W, 1 ≤ a.p.ep → a.p.ep ≤ 1099511627774 → _) := fun W e1 e2 => stands_any a.p s e1 e2 W
      have RS := rise_any a.p.ep
      obtain ⟨ua, un, uc⟩ := u
      have hn : un = a.l.length := (RA.out w (grown_refl _ _)).2.1
      have hb := (RA.out w (grown_refl _ _)).2.2
      rw [← hn] at hl hb
      simp only at SS MV SP MG PO HW1 CA RA PI ⊢
      obtain ⟨g, o, ea, _⟩ := SS.out w (grown_refl _ _)
      subst ea
      have un16 : (un : Int) ≤ 9223372036854775807 := by omega
      have i0 : ¬ (i : Int) < 0 := by omega
      have d0 : decide ((i : Int) < 0) = false := decide_eq_false i0
      have SC : Hid (∀ W, w.grownBy W none → W.rangeAt g (o + i * 5) (sc s)) := fun W gr => by
        obtain ⟨g', o', e1, e2⟩ := SS.out W gr
        injection e1 with e1
        injection e1 with e1 e3 _
        subst e1 e3
        exact e2
      clear hb hn SS hs hi hk h RA
      have CQ : Hid (∀ W, W1.grownBy W none → _) := fun W g => cells_p (CP.out W g)
      have CC : Hid (∀ W, W1.grownBy W none → _) := fun W g => cells_a (CA.out W g)
      cases h0 : decide (1 ≤ a.p.ep) with
      | false =>
        have m0 : decide (a.p.ep < 1) = true := by simp at h0 ⊢; omega
        have m0p : a.p.ep < 1 := by simpa using m0
        have E : Hid (false = B) := by have := HB.out; rw [h0] at this; show _ = _; simpa using this
        go_enter Try.func44, Try.ntmps44
        go_upto_region 2 with (refine load_p w.heap.size 3 a.p rfl PI.out ?_)
        rw [← HQ.out, ← HW1.out]
        go_upto_region 5 with (first | (refine load_p (Q + 1) 0 a.p rfl (CP.out W1 (grown_refl _ _)) ?_) | (refine load_a Q 0 a _ rfl (CA.out W1 (grown_refl _ _)) ?_) | (go_at_call 54; (with_reducible refine (PO _ G1.out).mono ?_); rintro e w2 ⟨rfl, g2⟩))
        have CR : ∀ y : Gr w2, _ := fun y => CQ.out y.now (grown_tr g2 y.grown)
        have CT : ∀ y : Gr w2, _ := fun y => CC.out y.now (grown_tr g2 y.grown)
        have CS : ∀ y : Gr w2, _ := fun y => cells_s (SC.out y.now (grown_tr G1.out (grown_tr g2 y.grown)))
        have x2 := fun y : Gr w2 => (CT y).2.2.1
        have z0 := fun y : Gr w2 => (CR y).1
        have z1 := fun y : Gr w2 => (CR y).2.1
        have z2 := fun y : Gr w2 => (CR y).2.2.1
        have z3 := fun y : Gr w2 => (CR y).2.2.2.1
        have z4 := fun y : Gr w2 => (CR y).2.2.2.2.1
        have z5 := fun y : Gr w2 => (CR y).2.2.2.2.2.1
        have z6 := fun y : Gr w2 => (CR y).2.2.2.2.2.2.1
        have z7 := fun y : Gr w2 => (CR y).2.2.2.2.2.2.2
        have v0 := fun y : Gr w2 => (CS y).1
        have v1 := fun y : Gr w2 => (CS y).2.1
        have v2 := fun y : Gr w2 => (CS y).2.2.1
        have v3 := fun y : Gr w2 => (CS y).2.2.2.1
        have v4 := fun y : Gr w2 => (CS y).2.2.2.2
        have hne : Nonempty (Gr w2) := ⟨w2, grown_refl _ _⟩
        have FIN : Hid (∀ y : Gr w2, w.grownBy y.now none) := fun y => grown_tr G1.out (grown_tr g2 y.grown)
        have RT : ∀ y : Gr w2, Calls Try.prog 74 #[.int .i64 a.p.ep] y.now fun e w' => e = .returned (.bool (mR a.p.ep)) ∧ y.now.grownBy w' none := fun y => (RS y.now).mono fun e w' h => ⟨h.1, by rw [h.2]; exact grown_refl _ _⟩
        have KEEP : Hid (∀ y : Gr w2, W1.grownBy y.now none) := fun y => grown_tr g2 y.grown
        clear CR CT CS
        refine wp_region_quiet_at (C := fun w' => ∃ y : Gr w2, w' = y.now) (by kernel_rfl) (by kernel_rfl) ⟨⟨_, grown_drewN (grown_refl _ _) 1⟩, rfl⟩ ?_
        repeat (go_big_quiet_step (first | (go_at_call 74; refine Gr.call (RT _))))
        refine wpQuiet_nil ?_
        rintro _ ⟨y, rfl⟩
        go_wp2_with fail
        go_ret
        exact ⟨by rw [← E.out]; rfl, FIN.out y⟩
      | true =>
        have m0 : decide (a.p.ep < 1) = false := by simp at h0 ⊢; omega
        have m0p : ¬ a.p.ep < 1 := by simpa using m0
        have e1 : Hid (1 ≤ a.p.ep) := by have := h0; show _ ≤ _; simpa using this
        cases h1 : mR a.p.ep with
        | false =>
          rw [h1] at RS
          have E : Hid (false = B) := by have := HB.out; rw [h0, h1] at this; show _ = _; simpa using this
          go_enter Try.func44, Try.ntmps44
          go_upto_region 2 with (refine load_p w.heap.size 3 a.p rfl PI.out ?_)
          rw [← HQ.out, ← HW1.out]
          go_upto_region 5 with (first | (refine load_p (Q + 1) 0 a.p rfl (CP.out W1 (grown_refl _ _)) ?_) | (refine load_a Q 0 a _ rfl (CA.out W1 (grown_refl _ _)) ?_) | (go_at_call 54; (with_reducible refine (PO _ G1.out).mono ?_); rintro e w2 ⟨rfl, g2⟩))
          have CR : ∀ y : Gr w2, _ := fun y => CQ.out y.now (grown_tr g2 y.grown)
          have CT : ∀ y : Gr w2, _ := fun y => CC.out y.now (grown_tr g2 y.grown)
          have CS : ∀ y : Gr w2, _ := fun y => cells_s (SC.out y.now (grown_tr G1.out (grown_tr g2 y.grown)))
          have x2 := fun y : Gr w2 => (CT y).2.2.1
          have z0 := fun y : Gr w2 => (CR y).1
          have z1 := fun y : Gr w2 => (CR y).2.1
          have z2 := fun y : Gr w2 => (CR y).2.2.1
          have z3 := fun y : Gr w2 => (CR y).2.2.2.1
          have z4 := fun y : Gr w2 => (CR y).2.2.2.2.1
          have z5 := fun y : Gr w2 => (CR y).2.2.2.2.2.1
          have z6 := fun y : Gr w2 => (CR y).2.2.2.2.2.2.1
          have z7 := fun y : Gr w2 => (CR y).2.2.2.2.2.2.2
          have v0 := fun y : Gr w2 => (CS y).1
          have v1 := fun y : Gr w2 => (CS y).2.1
          have v2 := fun y : Gr w2 => (CS y).2.2.1
          have v3 := fun y : Gr w2 => (CS y).2.2.2.1
          have v4 := fun y : Gr w2 => (CS y).2.2.2.2
          have hne : Nonempty (Gr w2) := ⟨w2, grown_refl _ _⟩
          have FIN : Hid (∀ y : Gr w2, w.grownBy y.now none) := fun y => grown_tr G1.out (grown_tr g2 y.grown)
          have RT : ∀ y : Gr w2, Calls Try.prog 74 #[.int .i64 a.p.ep] y.now fun e w' => e = .returned (.bool false) ∧ y.now.grownBy w' none := fun y => (RS y.now).mono fun e w' h => ⟨h.1, by rw [h.2]; exact grown_refl _ _⟩
          have KEEP : Hid (∀ y : Gr w2, W1.grownBy y.now none) := fun y => grown_tr g2 y.grown
          clear CR CT CS
          refine wp_region_quiet_at (C := fun w' => ∃ y : Gr w2, w' = y.now) (by kernel_rfl) (by kernel_rfl) ⟨⟨_, grown_drewN (grown_refl _ _) 1⟩, rfl⟩ ?_
          repeat (go_big_quiet_step (first | (go_at_call 74; refine Gr.call (RT _))))
          refine wpQuiet_nil ?_
          rintro _ ⟨y, rfl⟩
          go_wp2_with fail
          go_ret
          exact ⟨by rw [← E.out]; rfl, FIN.out y⟩
        | true =>
          rw [h1] at RS
          have e2 : Hid (a.p.ep ≤ 1099511627774) := by have := h1; unfold mR at this; show _ ≤ _; simpa using this
          cases h2 : stB a.p s with
          | false =>
            have E : Hid (false = B) := by have := HB.out; rw [h0, h1, h2] at this; show _ = _; simpa using this
            go_enter Try.func44, Try.ntmps44
            go_upto_region 2 with (refine load_p w.heap.size 3 a.p rfl PI.out ?_)
            rw [← HQ.out, ← HW1.out]
            go_upto_region 5 with (first | (refine load_p (Q + 1) 0 a.p rfl (CP.out W1 (grown_refl _ _)) ?_) | (refine load_a Q 0 a _ rfl (CA.out W1 (grown_refl _ _)) ?_) | (go_at_call 54; (with_reducible refine (PO _ G1.out).mono ?_); rintro e w2 ⟨rfl, g2⟩))
            have CR : ∀ y : Gr w2, _ := fun y => CQ.out y.now (grown_tr g2 y.grown)
            have CT : ∀ y : Gr w2, _ := fun y => CC.out y.now (grown_tr g2 y.grown)
            have CS : ∀ y : Gr w2, _ := fun y => cells_s (SC.out y.now (grown_tr G1.out (grown_tr g2 y.grown)))
            have x2 := fun y : Gr w2 => (CT y).2.2.1
            have z0 := fun y : Gr w2 => (CR y).1
            have z1 := fun y : Gr w2 => (CR y).2.1
            have z2 := fun y : Gr w2 => (CR y).2.2.1
            have z3 := fun y : Gr w2 => (CR y).2.2.2.1
            have z4 := fun y : Gr w2 => (CR y).2.2.2.2.1
            have z5 := fun y : Gr w2 => (CR y).2.2.2.2.2.1
            have z6 := fun y : Gr w2 => (CR y).2.2.2.2.2.2.1
            have z7 := fun y : Gr w2 => (CR y).2.2.2.2.2.2.2
            have v0 := fun y : Gr w2 => (CS y).1
            have v1 := fun y : Gr w2 => (CS y).2.1
            have v2 := fun y : Gr w2 => (CS y).2.2.1
            have v3 := fun y : Gr w2 => (CS y).2.2.2.1
            have v4 := fun y : Gr w2 => (CS y).2.2.2.2
            have hne : Nonempty (Gr w2) := ⟨w2, grown_refl _ _⟩
            have FIN : Hid (∀ y : Gr w2, w.grownBy y.now none) := fun y => grown_tr G1.out (grown_tr g2 y.grown)
            have RT : ∀ y : Gr w2, Calls Try.prog 74 #[.int .i64 a.p.ep] y.now fun e w' => e = .returned (.bool true) ∧ y.now.grownBy w' none := fun y => (RS y.now).mono fun e w' h => ⟨h.1, by rw [h.2]; exact grown_refl _ _⟩
            have STY : ∀ y : Gr w2, _ := fun y => ST.out y.now e1.out e2.out
            rw [h2] at STY
            have KEEP : Hid (∀ y : Gr w2, W1.grownBy y.now none) := fun y => grown_tr g2 y.grown
            clear CR CT CS
            refine wp_region_quiet_at (C := fun w' => ∃ y : Gr w2, w' = y.now) (by kernel_rfl) (by kernel_rfl) ⟨⟨_, grown_drewN (grown_refl _ _) 1⟩, rfl⟩ ?_
            repeat (go_big_quiet_step (first | (go_at_call 74; refine Gr.call (RT _)) | (go_at_call 75; refine Gr.call (STY _))))
            refine wpQuiet_nil ?_
            rintro _ ⟨y, rfl⟩
            go_wp2_with fail
            go_ret
            exact ⟨by rw [← E.out]; rfl, FIN.out y⟩
          | true =>
            cases k1 : (a.p.k == 1) with
            | true =>
              have e : a.p.k = 1 := by simpa using k1
              have E : Hid (moveB a.g a.p = B) := by have := HB.out; rw [h0, h1, h2, kB, e] at this; show _ = _; simpa using this
              clear kB HB h0 h1 e
              go_enter Try.func44, Try.ntmps44
              go_upto_region 2 with (refine load_p w.heap.size 3 a.p rfl PI.out ?_)
              rw [← HQ.out, ← HW1.out]
              go_upto_region 5 with (first | (refine load_p (Q + 1) 0 a.p rfl (CP.out W1 (grown_refl _ _)) ?_) | (refine load_a Q 0 a _ rfl (CA.out W1 (grown_refl _ _)) ?_) | (go_at_call 54; (with_reducible refine (PO _ G1.out).mono ?_); rintro e w2 ⟨rfl, g2⟩))
              have CR : ∀ y : Gr w2, _ := fun y => CQ.out y.now (grown_tr g2 y.grown)
              have CT : ∀ y : Gr w2, _ := fun y => CC.out y.now (grown_tr g2 y.grown)
              have CS : ∀ y : Gr w2, _ := fun y => cells_s (SC.out y.now (grown_tr G1.out (grown_tr g2 y.grown)))
              have x2 := fun y : Gr w2 => (CT y).2.2.1
              have z0 := fun y : Gr w2 => (CR y).1
              have z1 := fun y : Gr w2 => (CR y).2.1
              have z2 := fun y : Gr w2 => (CR y).2.2.1
              have z3 := fun y : Gr w2 => (CR y).2.2.2.1
              have z4 := fun y : Gr w2 => (CR y).2.2.2.2.1
              have z5 := fun y : Gr w2 => (CR y).2.2.2.2.2.1
              have z6 := fun y : Gr w2 => (CR y).2.2.2.2.2.2.1
              have z7 := fun y : Gr w2 => (CR y).2.2.2.2.2.2.2
              have v0 := fun y : Gr w2 => (CS y).1
              have v1 := fun y : Gr w2 => (CS y).2.1
              have v2 := fun y : Gr w2 => (CS y).2.2.1
              have v3 := fun y : Gr w2 => (CS y).2.2.2.1
              have v4 := fun y : Gr w2 => (CS y).2.2.2.2
              have hne : Nonempty (Gr w2) := ⟨w2, grown_refl _ _⟩
              have FIN : Hid (∀ y : Gr w2, w.grownBy y.now none) := fun y => grown_tr G1.out (grown_tr g2 y.grown)
              have RT : ∀ y : Gr w2, Calls Try.prog 74 #[.int .i64 a.p.ep] y.now fun e w' => e = .returned (.bool true) ∧ y.now.grownBy w' none := fun y => (RS y.now).mono fun e w' h => ⟨h.1, by rw [h.2]; exact grown_refl _ _⟩
              have STY : ∀ y : Gr w2, _ := fun y => ST.out y.now e1.out e2.out
              rw [h2] at STY
              have KEEP : Hid (∀ y : Gr w2, W1.grownBy y.now none) := fun y => grown_tr g2 y.grown
              clear CR CT CS
              refine wp_region_quiet_at (C := fun w' => ∃ y : Gr w2, w' = y.now) (by kernel_rfl) (by kernel_rfl) ⟨⟨_, grown_drewN (grown_refl _ _) 1⟩, rfl⟩ ?_
              repeat (go_big_quiet_step (first | (go_at_call 74; refine Gr.call (RT _)) | (go_at_call 75; refine Gr.call (STY _))))
              refine wpQuiet_nil ?_
              rintro _ ⟨y, rfl⟩
              have g4 := KEEP.out y
              obtain ⟨n0, n1, n2, n3, n4, n5, n6, n7⟩ := CQ.out y.now g4
              have gy := FIN.out y
              clear RT STY z0 z1 z2 z3 z4 z5 z6 z7 v0 v1 v2 v3 v4 x2 hne
              generalize y.now = w5 at *
              go_wp2_with (first | (refine load_a Q 0 a _ rfl (CA.out w5 g4) ?_) | (go_at_call 76; (with_reducible refine (MV.out _ gy).mono ?_); rintro e w6 ⟨rfl, g6⟩))
              go_ret
              exact ⟨by rw [← E.out]; rfl, grown_tr gy g6⟩
            | false =>
              cases k2 : (a.p.k == 2) with
              | true =>
                have e : a.p.k = 2 := by simpa using k2
                have E : Hid (splitB a.la a.l a.p s = B) := by have := HB.out; rw [h0, h1, h2, kB, e] at this; show _ = _; simpa using this
                clear kB HB h0 h1 e
                go_enter Try.func44, Try.ntmps44
                go_upto_region 2 with (refine load_p w.heap.size 3 a.p rfl PI.out ?_)
                rw [← HQ.out, ← HW1.out]
                go_upto_region 5 with (first | (refine load_p (Q + 1) 0 a.p rfl (CP.out W1 (grown_refl _ _)) ?_) | (refine load_a Q 0 a _ rfl (CA.out W1 (grown_refl _ _)) ?_) | (go_at_call 54; (with_reducible refine (PO _ G1.out).mono ?_); rintro e w2 ⟨rfl, g2⟩))
                have CR : ∀ y : Gr w2, _ := fun y => CQ.out y.now (grown_tr g2 y.grown)
                have CT : ∀ y : Gr w2, _ := fun y => CC.out y.now (grown_tr g2 y.grown)
                have CS : ∀ y : Gr w2, _ := fun y => cells_s (SC.out y.now (grown_tr G1.out (grown_tr g2 y.grown)))
                have x2 := fun y : Gr w2 => (CT y).2.2.1
                have z0 := fun y : Gr w2 => (CR y).1
                have z1 := fun y : Gr w2 => (CR y).2.1
                have z2 := fun y : Gr w2 => (CR y).2.2.1
                have z3 := fun y : Gr w2 => (CR y).2.2.2.1
                have z4 := fun y : Gr w2 => (CR y).2.2.2.2.1
                have z5 := fun y : Gr w2 => (CR y).2.2.2.2.2.1
                have z6 := fun y : Gr w2 => (CR y).2.2.2.2.2.2.1
                have z7 := fun y : Gr w2 => (CR y).2.2.2.2.2.2.2
                have v0 := fun y : Gr w2 => (CS y).1
                have v1 := fun y : Gr w2 => (CS y).2.1
                have v2 := fun y : Gr w2 => (CS y).2.2.1
                have v3 := fun y : Gr w2 => (CS y).2.2.2.1
                have v4 := fun y : Gr w2 => (CS y).2.2.2.2
                have hne : Nonempty (Gr w2) := ⟨w2, grown_refl _ _⟩
                have FIN : Hid (∀ y : Gr w2, w.grownBy y.now none) := fun y => grown_tr G1.out (grown_tr g2 y.grown)
                have RT : ∀ y : Gr w2, Calls Try.prog 74 #[.int .i64 a.p.ep] y.now fun e w' => e = .returned (.bool true) ∧ y.now.grownBy w' none := fun y => (RS y.now).mono fun e w' h => ⟨h.1, by rw [h.2]; exact grown_refl _ _⟩
                have STY : ∀ y : Gr w2, _ := fun y => ST.out y.now e1.out e2.out
                rw [h2] at STY
                have KEEP : Hid (∀ y : Gr w2, W1.grownBy y.now none) := fun y => grown_tr g2 y.grown
                clear CR CT CS
                refine wp_region_quiet_at (C := fun w' => ∃ y : Gr w2, w' = y.now) (by kernel_rfl) (by kernel_rfl) ⟨⟨_, grown_drewN (grown_refl _ _) 1⟩, rfl⟩ ?_
                repeat (go_big_quiet_step (first | (go_at_call 74; refine Gr.call (RT _)) | (go_at_call 75; refine Gr.call (STY _))))
                refine wpQuiet_nil ?_
                rintro _ ⟨y, rfl⟩
                have g4 := KEEP.out y
                obtain ⟨n0, n1, n2, n3, n4, n5, n6, n7⟩ := CQ.out y.now g4
                have gy := FIN.out y
                clear RT STY z0 z1 z2 z3 z4 z5 z6 z7 v0 v1 v2 v3 v4 x2 hne
                generalize y.now = w5 at *
                go_wp2_with (first | (refine load_a Q 0 a _ rfl (CA.out w5 g4) ?_) | (go_at_call 77; (with_reducible refine (SP.out _ gy).mono ?_); rintro e w6 ⟨rfl, g6⟩))
                go_ret
                exact ⟨by rw [← E.out]; rfl, grown_tr gy g6⟩
              | false =>
                cases k3 : (a.p.k == 3) with
                | true =>
                  have e : a.p.k = 3 := by simpa using k3
                  have E : Hid (mergeB a.l a.p i = B) := by have := HB.out; rw [h0, h1, h2, kB, e] at this; show _ = _; simpa using this
                  clear kB HB h0 h1 e
                  go_enter Try.func44, Try.ntmps44
                  go_upto_region 2 with (refine load_p w.heap.size 3 a.p rfl PI.out ?_)
                  rw [← HQ.out, ← HW1.out]
                  go_upto_region 5 with (first | (refine load_p (Q + 1) 0 a.p rfl (CP.out W1 (grown_refl _ _)) ?_) | (refine load_a Q 0 a _ rfl (CA.out W1 (grown_refl _ _)) ?_) | (go_at_call 54; (with_reducible refine (PO _ G1.out).mono ?_); rintro e w2 ⟨rfl, g2⟩))
                  have CR : ∀ y : Gr w2, _ := fun y => CQ.out y.now (grown_tr g2 y.grown)
                  have CT : ∀ y : Gr w2, _ := fun y => CC.out y.now (grown_tr g2 y.grown)
                  have CS : ∀ y : Gr w2, _ := fun y => cells_s (SC.out y.now (grown_tr G1.out (grown_tr g2 y.grown)))
                  have x2 := fun y : Gr w2 => (CT y).2.2.1
                  have z0 := fun y : Gr w2 => (CR y).1
                  have z1 := fun y : Gr w2 => (CR y).2.1
                  have z2 := fun y : Gr w2 => (CR y).2.2.1
                  have z3 := fun y : Gr w2 => (CR y).2.2.2.1
                  have z4 := fun y : Gr w2 => (CR y).2.2.2.2.1
                  have z5 := fun y : Gr w2 => (CR y).2.2.2.2.2.1
                  have z6 := fun y : Gr w2 => (CR y).2.2.2.2.2.2.1
                  have z7 := fun y : Gr w2 => (CR y).2.2.2.2.2.2.2
                  have v0 := fun y : Gr w2 => (CS y).1
                  have v1 := fun y : Gr w2 => (CS y).2.1
                  have v2 := fun y : Gr w2 => (CS y).2.2.1
                  have v3 := fun y : Gr w2 => (CS y).2.2.2.1
                  have v4 := fun y : Gr w2 => (CS y).2.2.2.2
                  have hne : Nonempty (Gr w2) := ⟨w2, grown_refl _ _⟩
                  have FIN : Hid (∀ y : Gr w2, w.grownBy y.now none) := fun y => grown_tr G1.out (grown_tr g2 y.grown)
                  have RT : ∀ y : Gr w2, Calls Try.prog 74 #[.int .i64 a.p.ep] y.now fun e w' => e = .returned (.bool true) ∧ y.now.grownBy w' none := fun y => (RS y.now).mono fun e w' h => ⟨h.1, by rw [h.2]; exact grown_refl _ _⟩
                  have STY : ∀ y : Gr w2, _ := fun y => ST.out y.now e1.out e2.out
                  rw [h2] at STY
                  have KEEP : Hid (∀ y : Gr w2, W1.grownBy y.now none) := fun y => grown_tr g2 y.grown
                  clear CR CT CS
                  refine wp_region_quiet_at (C := fun w' => ∃ y : Gr w2, w' = y.now) (by kernel_rfl) (by kernel_rfl) ⟨⟨_, grown_drewN (grown_refl _ _) 1⟩, rfl⟩ ?_
                  repeat (go_big_quiet_step (first | (go_at_call 74; refine Gr.call (RT _)) | (go_at_call 75; refine Gr.call (STY _))))
                  refine wpQuiet_nil ?_
                  rintro _ ⟨y, rfl⟩
                  have g4 := KEEP.out y
                  obtain ⟨n0, n1, n2, n3, n4, n5, n6, n7⟩ := CQ.out y.now g4
                  have gy := FIN.out y
                  clear RT STY z0 z1 z2 z3 z4 z5 z6 z7 v0 v1 v2 v3 v4 x2 hne
                  generalize y.now = w5 at *
                  go_wp2_with (first | (refine load_a Q 0 a _ rfl (CA.out w5 g4) ?_) | (go_at_call 78; (with_reducible refine (MG.out _ gy).mono ?_); rintro e w6 ⟨rfl, g6⟩))
                  go_ret
                  exact ⟨by rw [← E.out]; rfl, grown_tr gy g6⟩
                | false =>
                  have f1 : ¬ a.p.k = 1 := by simpa using k1
                  have f2 : ¬ a.p.k = 2 := by simpa using k2
                  have f3 : ¬ a.p.k = 3 := by simpa using k3
                  have E : Hid (false = B) := by have := HB.out; rw [h0, h1, h2, kB, if_neg f1, if_neg f2, if_neg f3] at this; show _ = _; simpa using this
                  clear kB HB h0 h1 f1 f2 f3
                  go_enter Try.func44, Try.ntmps44
                  go_upto_region 2 with (refine load_p w.heap.size 3 a.p rfl PI.out ?_)
                  rw [← HQ.out, ← HW1.out]
                  go_upto_region 5 with (first | (refine load_p (Q + 1) 0 a.p rfl (CP.out W1 (grown_refl _ _)) ?_) | (refine load_a Q 0 a _ rfl (CA.out W1 (grown_refl _ _)) ?_) | (go_at_call 54; (with_reducible refine (PO _ G1.out).mono ?_); rintro e w2 ⟨rfl, g2⟩))
                  have CR : ∀ y : Gr w2, _ := fun y => CQ.out y.now (grown_tr g2 y.grown)
                  have CT : ∀ y : Gr w2, _ := fun y => CC.out y.now (grown_tr g2 y.grown)
                  have CS : ∀ y : Gr w2, _ := fun y => cells_s (SC.out y.now (grown_tr G1.out (grown_tr g2 y.grown)))
                  have x2 := fun y : Gr w2 => (CT y).2.2.1
                  have z0 := fun y : Gr w2 => (CR y).1
                  have z1 := fun y : Gr w2 => (CR y).2.1
                  have z2 := fun y : Gr w2 => (CR y).2.2.1
                  have z3 := fun y : Gr w2 => (CR y).2.2.2.1
                  have z4 := fun y : Gr w2 => (CR y).2.2.2.2.1
                  have z5 := fun y : Gr w2 => (CR y).2.2.2.2.2.1
                  have z6 := fun y : Gr w2 => (CR y).2.2.2.2.2.2.1
                  have z7 := fun y : Gr w2 => (CR y).2.2.2.2.2.2.2
                  have v0 := fun y : Gr w2 => (CS y).1
                  have v1 := fun y : Gr w2 => (CS y).2.1
                  have v2 := fun y : Gr w2 => (CS y).2.2.1
                  have v3 := fun y : Gr w2 => (CS y).2.2.2.1
                  have v4 := fun y : Gr w2 => (CS y).2.2.2.2
                  have hne : Nonempty (Gr w2) := ⟨w2, grown_refl _ _⟩
                  have FIN : Hid (∀ y : Gr w2, w.grownBy y.now none) := fun y => grown_tr G1.out (grown_tr g2 y.grown)
                  have RT : ∀ y : Gr w2, Calls Try.prog 74 #[.int .i64 a.p.ep] y.now fun e w' => e = .returned (.bool true) ∧ y.now.grownBy w' none := fun y => (RS y.now).mono fun e w' h => ⟨h.1, by rw [h.2]; exact grown_refl _ _⟩
                  have STY : ∀ y : Gr w2, _ := fun y => ST.out y.now e1.out e2.out
                  rw [h2] at STY
                  have KEEP : Hid (∀ y : Gr w2, W1.grownBy y.now none) := fun y => grown_tr g2 y.grown
                  clear CR CT CS
                  refine wp_region_quiet_at (C := fun w' => ∃ y : Gr w2, w' = y.now) (by kernel_rfl) (by kernel_rfl) ⟨⟨_, grown_drewN (grown_refl _ _) 1⟩, rfl⟩ ?_
                  repeat (go_big_quiet_step (first | (go_at_call 74; refine Gr.call (RT _)) | (go_at_call 75; refine Gr.call (STY _))))
                  refine wpQuiet_nil ?_
                  rintro _ ⟨y, rfl⟩


                  have g4 := KEEP.out y
                  obtain ⟨n0, n1, n2, n3, n4, n5, n6, n7⟩ := CQ.out y.now g4
                  have gy := FIN.out y
                  clear RT STY z0 z1 z2 z3 z4 z5 z6 z7 v0 v1 v2 v3 v4 x2 hne
                  generalize y.now = w5 at *
                  go_wp2_with fail
                  go_ret
                  exact ⟨by rw [← E.out]; rfl, gy⟩
end Go.Proofs.Ytlolhdijadhklaa
