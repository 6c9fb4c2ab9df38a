/- The statement on printing and reading again: its walk. -/
import Derived.Test.YthjfecniipifhaaDoorKAwake
import Derived.Test.YthjfecniipifhaaDoorKBackMath
namespace Go.Proofs.YthjfecniipifhaaDoor
open Go.RowKit
set_option linter.unusedVariables false

theorem eql_cron (m0 m1 m2 m3 m4 : Nat) (ad aw : Bool) (w : World) : (binOp .eql 25 (.agg #[.int .u64 m0, .int .u64 m1, .int .u64 m2, .int .u64 m3, .int .u64 m4, .bool ad, .bool aw]) (.agg #[.int .u64 m0, .int .u64 m1, .int .u64 m2, .int .u64 m3, .int .u64 m4, .bool ad, .bool aw])).run Tryd.prog w = .ok (.bool true) w := by
  go_simp
theorem neq_cron (m0 m1 m2 m3 m4 : Nat) (ad aw : Bool) (w : World) : (binOp .neq 25 (.agg #[.int .u64 m0, .int .u64 m1, .int .u64 m2, .int .u64 m3, .int .u64 m4, .bool ad, .bool aw]) (.agg #[.int .u64 m0, .int .u64 m1, .int .u64 m2, .int .u64 m3, .int .u64 m4, .bool ad, .bool aw])).run Tryd.prog w = .ok (.bool false) w := by
  go_simp

/-- Seven cells laid, in a later world. -/
def Sev (v : World) (b : Nat) (m0 m1 m2 m3 m4 : Nat) (ad aw : Bool) : Prop :=
  v.cell? ⟨b, 0, none⟩ = some (.int .u64 m0) ∧ v.cell? ⟨b, 1, none⟩ = some (.int .u64 m1) ∧ v.cell? ⟨b, 2, none⟩ = some (.int .u64 m2) ∧ v.cell? ⟨b, 3, none⟩ = some (.int .u64 m3) ∧ v.cell? ⟨b, 4, none⟩ = some (.int .u64 m4) ∧ v.cell? ⟨b, 5, none⟩ = some (.bool ad) ∧ v.cell? ⟨b, 6, none⟩ = some (.bool aw)
theorem Sev.of {w v : World} {m0 m1 m2 m3 m4 : Nat} {ad aw : Bool} {t : TypeId} (hg : (w.alloc (.cells #[.int .u64 m0, .int .u64 m1, .int .u64 m2, .int .u64 m3, .int .u64 m4, .bool ad, .bool aw] t)).grownBy v none) : Sev v w.heap.size m0 m1 m2 m3 m4 ad aw :=
  ⟨cell_kept hg 0 _ rfl, cell_kept hg 1 _ rfl, cell_kept hg 2 _ rfl, cell_kept hg 3 _ rfl, cell_kept hg 4 _ rfl, cell_kept hg 5 _ rfl, cell_kept hg 6 _ rfl⟩

set_option maxRecDepth 100000 in
set_option maxHeartbeats 3200000 in
theorem back_by (m0 m1 m2 m3 m4 n0 n1 n2 n3 n4 i : Nat) (ad aw bd bw r : Bool) (e : Int) (tc t td : ByteArray)
    (hz : e ≠ 0 → n0 = 0 ∧ n1 = 0 ∧ n2 = 0 ∧ n3 = 0 ∧ n4 = 0 ∧ bd = false ∧ bw = false)
    (PR : ∀ w, Gl w → Calls Tryd.prog 12 #[.agg #[.int .u64 m0, .int .u64 m1, .int .u64 m2, .int .u64 m3, .int .u64 m4, .bool ad, .bool aw]] w fun e w' => e = .returned (.tuple #[.string tc, .int .i64 (if r then 0 else 1)]) ∧ w.grownBy w' none)
    (PC : r = true → ∀ w, Gl w → Calls Tryd.prog 10 #[.string tc] w fun e w' => e = .returned (.tuple #[.agg #[.int .u64 m0, .int .u64 m1, .int .u64 m2, .int .u64 m3, .int .u64 m4, .bool ad, .bool aw], .int .i64 0, .int .i64 0]) ∧ w.grownBy w' none)
    (PT : ∀ w, Gl w → Calls Tryd.prog 10 #[.string t] w fun x w' => x = .returned (.tuple #[.agg #[.int .u64 n0, .int .u64 n1, .int .u64 n2, .int .u64 n3, .int .u64 n4, .bool bd, .bool bw], .int .i64 i, .int .i64 e]) ∧ w.grownBy w' none)
    (PD : e = 0 → ∀ w, Gl w → Calls Tryd.prog 12 #[.agg #[.int .u64 n0, .int .u64 n1, .int .u64 n2, .int .u64 n3, .int .u64 n4, .bool bd, .bool bw]] w fun e w' => e = .returned (.tuple #[.string td, .int .i64 0]) ∧ w.grownBy w' none)
    (PE : e = 0 → ∀ w, Gl w → Calls Tryd.prog 10 #[.string td] w fun e w' => e = .returned (.tuple #[.agg #[.int .u64 n0, .int .u64 n1, .int .u64 n2, .int .u64 n3, .int .u64 n4, .bool bd, .bool bw], .int .i64 0, .int .i64 0]) ∧ w.grownBy w' none)
    (CD : e = 0 → ∀ w, Gl w → Calls Tryd.prog 14 #[.agg #[.int .u64 n0, .int .u64 n1, .int .u64 n2, .int .u64 n3, .int .u64 n4, .bool bd, .bool bw]] w fun e w' => e = .returned (.bool true) ∧ w.grownBy w' none)
    (w : World) (hG : Gl w) :
    Calls Tryd.prog 5 #[.agg #[.int .u64 m0, .int .u64 m1, .int .u64 m2, .int .u64 m3, .int .u64 m4, .bool ad, .bool aw], .string t] w fun e w' => e = .returned (.bool true) ∧ w.grownBy w' none := by
  have AW := awake_any
  have NC := neq_cron m0 m1 m2 m3 m4 ad aw
  have ED := eql_cron n0 n1 n2 n3 n4 bd bw
  obtain ⟨W0, hW0⟩ : ∃ W0, W0 = w.alloc (.cells #[.int .u64 m0, .int .u64 m1, .int .u64 m2, .int .u64 m3, .int .u64 m4, .bool ad, .bool aw] 25) := ⟨_, rfl⟩
  have SV : Hid (∀ v, W0.grownBy v none → Sev v w.heap.size m0 m1 m2 m3 m4 ad aw) := fun v hv => by subst hW0; exact Sev.of hv
  have GG : Hid (∀ v, W0.grownBy v none → Gl v) := fun v hv => by subst hW0; exact hG.kept (grown_more (World.grownBy_alloc w _ none) hv (by simp))
  have WW : Hid (∀ v, W0.grownBy v none → w.grownBy v none) := fun v hv => by subst hW0; exact grown_more (World.grownBy_alloc w _ none) hv (by simp)
  have G0 := GG.out _ (grown_refl _ _)
  clear hG
  by_cases he : e = 0
  · subst he
    have PD1 := PD rfl
    have PE1 := PE rfl
    have CD1 := CD rfl
    clear hz
    cases r with
    | true =>
      have PC1 := PC rfl
      simp only [if_true] at PR
      go_enter Tryd.func5, Tryd.ntmps5
      go_wp2_with (first
        | (rw [← hW0]; go_at_call 9; go_must (refine (AW _ G0).mono ?_); rintro e w1 ⟨rfl, hg1⟩; have g1 := GG.out _ hg1; obtain ⟨a0, a1, a2, a3, a4, a5, a6⟩ := SV.out _ hg1)
        | (go_at_call 12; (with_reducible refine (PR _ g1).mono ?_); rintro e w2 ⟨rfl, hg2⟩; clear a0 a1 a2 a3 a4 a5 a6; have h2 := grown_more hg1 hg2 (by simp); have g2 := GG.out _ h2)
        | (go_at_call 10; (with_reducible refine (PC1 _ g2).mono ?_); rintro e w3 ⟨rfl, hg3⟩; have h3 := fun o => grown_alloc (grown_more h2 hg3 (by simp)) o; have g3 := fun o => GG.out _ (h3 o); have b0 := fun o => (SV.out _ (h3 o)).1; have b1 := fun o => (SV.out _ (h3 o)).2.1; have b2 := fun o => (SV.out _ (h3 o)).2.2.1; have b3 := fun o => (SV.out _ (h3 o)).2.2.2.1; have b4 := fun o => (SV.out _ (h3 o)).2.2.2.2.1; have b5 := fun o => (SV.out _ (h3 o)).2.2.2.2.2.1; have b6 := fun o => (SV.out _ (h3 o)).2.2.2.2.2.2)
        | (go_at_call 10; (with_reducible refine (PT _ (g3 _)).mono ?_); rintro e w4 ⟨rfl, hg4⟩; have h4 := fun o => grown_alloc (grown_more (h3 _) hg4 (by simp)) o; have g4 := fun o => GG.out _ (h4 o))
        | (go_at_call 12; (with_reducible refine (PD1 _ (g4 _)).mono ?_); rintro e w5 ⟨rfl, hg5⟩; have h5 := grown_more (h4 _) hg5 (by simp); have g5 := GG.out _ h5)
        | (go_at_call 10; (with_reducible refine (PE1 _ g5).mono ?_); rintro e w6 ⟨rfl, hg6⟩; have h6 := fun o => grown_alloc (grown_more h5 hg6 (by simp)) o; have k6 := fun o => grown_alloc (grown_more hg5 hg6 (by simp)) o; have g6 := fun o => GG.out _ (h6 o); have c0 := fun o => (Sev.of (k6 o)).1; have c1 := fun o => (Sev.of (k6 o)).2.1; have c2 := fun o => (Sev.of (k6 o)).2.2.1; have c3 := fun o => (Sev.of (k6 o)).2.2.2.1; have c4 := fun o => (Sev.of (k6 o)).2.2.2.2.1; have c5 := fun o => (Sev.of (k6 o)).2.2.2.2.2.1; have c6 := fun o => (Sev.of (k6 o)).2.2.2.2.2.2)
        | (go_at_call 14; (with_reducible refine (CD1 _ (g6 _)).mono ?_); rintro e w7 ⟨rfl, hg7⟩; have h7 := grown_more (h6 _) hg7 (by simp); have k7 := grown_more (k6 _) hg7 (by simp); obtain ⟨d0, d1, d2, d3, d4, d5, d6⟩ := Sev.of k7; obtain ⟨e0, e1, e2, e3, e4, e5, e6⟩ := Sev.of hg7))
      go_ret
      exact ⟨rfl, WW.out _ h7⟩
    | false =>
      clear PC
      simp only [Bool.false_eq_true, if_false] at PR
      go_enter Tryd.func5, Tryd.ntmps5
      go_wp2_with (first
        | (rw [← hW0]; go_at_call 9; go_must (refine (AW _ G0).mono ?_); rintro e w1 ⟨rfl, hg1⟩; have g1 := GG.out _ hg1; obtain ⟨a0, a1, a2, a3, a4, a5, a6⟩ := SV.out _ hg1)
        | (go_at_call 12; (with_reducible refine (PR _ g1).mono ?_); rintro e w2 ⟨rfl, hg2⟩; clear a0 a1 a2 a3 a4 a5 a6; have h2 := grown_more hg1 hg2 (by simp); have g2 := GG.out _ h2)
        | (go_at_call 10; (with_reducible refine (PT _ g2).mono ?_); rintro e w4 ⟨rfl, hg4⟩; have h4 := fun o => grown_alloc (grown_more h2 hg4 (by simp)) o; have g4 := fun o => GG.out _ (h4 o))
        | (go_at_call 12; (with_reducible refine (PD1 _ (g4 _)).mono ?_); rintro e w5 ⟨rfl, hg5⟩; have h5 := grown_more (h4 _) hg5 (by simp); have g5 := GG.out _ h5)
        | (go_at_call 10; (with_reducible refine (PE1 _ g5).mono ?_); rintro e w6 ⟨rfl, hg6⟩; have h6 := fun o => grown_alloc (grown_more h5 hg6 (by simp)) o; have k6 := fun o => grown_alloc (grown_more hg5 hg6 (by simp)) o; have g6 := fun o => GG.out _ (h6 o); have c0 := fun o => (Sev.of (k6 o)).1; have c1 := fun o => (Sev.of (k6 o)).2.1; have c2 := fun o => (Sev.of (k6 o)).2.2.1; have c3 := fun o => (Sev.of (k6 o)).2.2.2.1; have c4 := fun o => (Sev.of (k6 o)).2.2.2.2.1; have c5 := fun o => (Sev.of (k6 o)).2.2.2.2.2.1; have c6 := fun o => (Sev.of (k6 o)).2.2.2.2.2.2)
        | (go_at_call 14; (with_reducible refine (CD1 _ (g6 _)).mono ?_); rintro e w7 ⟨rfl, hg7⟩; have h7 := grown_more (h6 _) hg7 (by simp); have k7 := grown_more (k6 _) hg7 (by simp); obtain ⟨d0, d1, d2, d3, d4, d5, d6⟩ := Sev.of k7; obtain ⟨e0, e1, e2, e3, e4, e5, e6⟩ := Sev.of hg7))
      go_ret
      exact ⟨rfl, WW.out _ h7⟩
  · obtain ⟨rfl, rfl, rfl, rfl, rfl, rfl, rfl⟩ := hz he
    have q : (e != 0) = true := by simpa using he
    clear PD PE CD hz he
    cases r with
    | true =>
      have PC1 := PC rfl
      simp only [if_true] at PR
      go_enter Tryd.func5, Tryd.ntmps5
      go_wp2_with (first
        | (rw [← hW0]; go_at_call 9; go_must (refine (AW _ G0).mono ?_); rintro e w1 ⟨rfl, hg1⟩; have g1 := GG.out _ hg1; obtain ⟨a0, a1, a2, a3, a4, a5, a6⟩ := SV.out _ hg1)
        | (go_at_call 12; (with_reducible refine (PR _ g1).mono ?_); rintro e w2 ⟨rfl, hg2⟩; clear a0 a1 a2 a3 a4 a5 a6; have h2 := grown_more hg1 hg2 (by simp); have g2 := GG.out _ h2)
        | (go_at_call 10; (with_reducible refine (PC1 _ g2).mono ?_); rintro e w3 ⟨rfl, hg3⟩; have h3 := fun o => grown_alloc (grown_more h2 hg3 (by simp)) o; have g3 := fun o => GG.out _ (h3 o); have b0 := fun o => (SV.out _ (h3 o)).1; have b1 := fun o => (SV.out _ (h3 o)).2.1; have b2 := fun o => (SV.out _ (h3 o)).2.2.1; have b3 := fun o => (SV.out _ (h3 o)).2.2.2.1; have b4 := fun o => (SV.out _ (h3 o)).2.2.2.2.1; have b5 := fun o => (SV.out _ (h3 o)).2.2.2.2.2.1; have b6 := fun o => (SV.out _ (h3 o)).2.2.2.2.2.2)
        | (go_at_call 10; (with_reducible refine (PT _ (g3 _)).mono ?_); rintro e w4 ⟨rfl, hg4⟩; have h4 := fun o => grown_alloc (grown_more (h3 _) hg4 (by simp)) o; have g4 := fun o => GG.out _ (h4 o)))
      go_ret
      exact ⟨rfl, WW.out _ (h4 _)⟩
    | false =>
      clear PC
      simp only [Bool.false_eq_true, if_false] at PR
      go_enter Tryd.func5, Tryd.ntmps5
      go_wp2_with (first
        | (rw [← hW0]; go_at_call 9; go_must (refine (AW _ G0).mono ?_); rintro e w1 ⟨rfl, hg1⟩; have g1 := GG.out _ hg1; obtain ⟨a0, a1, a2, a3, a4, a5, a6⟩ := SV.out _ hg1)
        | (go_at_call 12; (with_reducible refine (PR _ g1).mono ?_); rintro e w2 ⟨rfl, hg2⟩; clear a0 a1 a2 a3 a4 a5 a6; have h2 := grown_more hg1 hg2 (by simp); have g2 := GG.out _ h2)
        | (go_at_call 10; (with_reducible refine (PT _ g2).mono ?_); rintro e w4 ⟨rfl, hg4⟩; have h4 := fun o => grown_alloc (grown_more h2 hg4 (by simp)) o; have g4 := fun o => GG.out _ (h4 o)))
      go_ret
      exact ⟨rfl, WW.out _ (h4 _)⟩

theorem cronBack.walk (W : World) (hG : Gl W) (v0 : Value) (o0 : ∃ c : Cro.C, v0 = crv c ∧ c.ok) (t : ByteArray) :
    Calls Tryd.prog 5 #[v0, .string t] W fun e W' => e = .returned (.bool true) ∧ Below W.heap.size W W' := by
  obtain ⟨c, rfl, hc⟩ := o0
  have hr : ∀ e : (Cro.parse t.data.toList).2.2 = 0, (Cro.parse t.data.toList).1.right := fun e => Cro.parse_right e
  have hk := Cro.parse_ok64 t.data.toList
  have hb := fun e => Cro.parse_bad (l := t.data.toList) e
  have PT := fun w hG => Parse_any t w hG
  generalize Cro.parse t.data.toList = p at hr hk hb PT
  have PR : ∀ (c : Cro.C), c.ok → c.right → ∀ w, Gl w → Calls Tryd.prog 12 #[crv c] w fun e w' => e = .returned (.tuple #[.string ⟨c.text.toArray⟩, .int .i64 0]) ∧ w.grownBy w' none := fun c hc hr w hG => Print_yes c hc hr (text_len c) w hG
  have PP : ∀ (c : Cro.C), c.right → ∀ w, Gl w → Calls Tryd.prog 10 #[.string ⟨c.text.toArray⟩] w fun e w' => e = .returned (.tuple #[crv c, .int .i64 0, .int .i64 0]) ∧ w.grownBy w' none := fun c hr w hG => by
    have := Parse_any ⟨c.text.toArray⟩ w hG
    rw [show Cro.parse (⟨c.text.toArray⟩ : ByteArray).data.toList = (c, 0, 0) from Cro.parse_text hr] at this
    exact this
  have fin : ∀ (r : Bool) (tc : ByteArray), (∀ w, Gl w → Calls Tryd.prog 12 #[crv c] w fun e w' => e = .returned (.tuple #[.string tc, .int .i64 (if r then 0 else 1)]) ∧ w.grownBy w' none) →
      (r = true → ∀ w, Gl w → Calls Tryd.prog 10 #[.string tc] w fun e w' => e = .returned (.tuple #[crv c, .int .i64 0, .int .i64 0]) ∧ w.grownBy w' none) →
      Calls Tryd.prog 5 #[crv c, .string t] W fun e W' => e = .returned (.bool true) ∧ W.grownBy W' none := fun r tc H1 H2 =>
    back_by c.mi c.ho c.da c.mo c.we p.1.mi p.1.ho p.1.da p.1.mo p.1.we p.2.1 c.ad c.aw p.1.ad p.1.aw r p.2.2 tc t ⟨p.1.text.toArray⟩
      (fun e => by rw [hb e]; exact ⟨rfl, rfl, rfl, rfl, rfl, rfl, rfl⟩) H1 H2 PT (fun e => PR p.1 hk (hr e)) (fun e => PP p.1 (hr e))
      (fun e w hG => by have := Check_any p.1 hk w hG; rw [decide_eq_true (hr e)] at this; exact this) W hG
  have all : Calls Tryd.prog 5 #[crv c, .string t] W fun e W' => e = .returned (.bool true) ∧ W.grownBy W' none := by
    by_cases h : c.right
    · exact fin true ⟨c.text.toArray⟩ (PR c hc h) (fun _ => PP c h)
    · refine fin false ⟨#[]⟩ (fun w hG => ?_) (fun e => by cases e)
      have := Print_no c hc h w hG
      unfold Cro.prt at this
      rw [if_neg h] at this
      exact this
  refine all.mono ?_
  rintro e W' ⟨rfl, hg⟩
  exact ⟨rfl, grown_below hg⟩
end Go.Proofs.YthjfecniipifhaaDoor
