/- enter, Send, Double, Drop, Deliver, Next, Flight: whatever they are asked. -/
import Derived.Test.YtffbaomaiohdiaaMCalls
namespace Go.Proofs.Ytffbaomaiohdiaa
open Go.RowKit Msh
set_option linter.unusedVariables false
set_option maxRecDepth 10000

set_option maxRecDepth 100000 in
set_option maxHeartbeats 800000 in
theorem enter_full (b bm : Nat) (v : Value) (s : Ms) (p : Pk) (w : World) (h : MeD w b bm v s) (hl : s.l.length = 512) :
    Calls Try.prog 25 #[.pointer (some ⟨b, 0, none⟩), pv p] w fun e w' => e = .returned (.tuple #[.int .i64 0, .int .i64 3]) ∧ w.grownBy w' none := by
  obtain ⟨ad, cp, hv⟩ := h.row.rx.form
  have c0 := h.c0
  have hbl := h.lt.1
  rw [hl] at hv
  subst hv
  clear h
  go_enter Try.func25, Try.ntmps25
  go_wp2
  go_ret2
  exact ⟨rfl, World.grownBy_alloc w _ none⟩
set_option maxRecDepth 100000 in
set_option maxHeartbeats 1600000 in
theorem enter_ok (b : Nat) (s : Ms) (F : Nat → Prop) (p : Pk) (w : World) (h : Me w b s F) (hl : s.l.length ≠ 512) (hn : s.n ≤ 1000000) (hp : p.body.size ≤ 65536) (hf : I64 p.fm) (ht : I64 p.tt) :
    Calls Try.prog 25 #[.pointer (some ⟨b, 0, none⟩), pv p] w fun e w' => e = .returned (.tuple #[.int .i64 ((s.n : Int) + 1), .int .i64 0]) ∧ ∃ F', Me w' b ⟨s.l ++ [⟨(s.n : Int) + 1, p.fm, p.tt, p.body⟩], s.n + 1, s.cs⟩ F' ∧ (∀ k, F' k → F k ∨ w.heap.size ≤ k) ∧ Chg F w w' := by
  obtain ⟨bm, v, h1, h2⟩ := h
  obtain ⟨ad, cp, hv⟩ := h1.row.rx.form
  have hlen := h1.ok.len
  have H1 : Hid (MeD w b bm v s) := h1
  have LNE : Hid (¬ s.l.length = 512) := hl
  have c0 := h1.c0
  have c2 := h1.c2
  have fr2 := h1.fr 2
  have fr0 := h1.fr 0
  have hbl := h1.lt.1
  have hln : ((s.l.length : Int) == 512) = false := by rw [beq_eq_false_iff_ne]; omega
  subst hv
  obtain ⟨N, hN⟩ : ∃ N, s.l.length = N := ⟨_, rfl⟩
  have NL : Hid (s.l.length = N) := hN
  rw [hN] at hlen c0 hln hl H1 h2
  clear h1 hN
  go_enter Try.func25, Try.ntmps25
  go_wp2_with fail
  obtain ⟨q, hq⟩ : ∃ q, q = w.heap.size := ⟨_, rfl⟩
  rw [← hq]
  generalize hw1 : (w.setCell ⟨b, 2, none⟩ (.int .i64 ((s.n : Int) + 1))).alloc (.cells #[.int .i64 ((s.n : Int) + 1), .int .i64 p.fm, .int .i64 p.tt, .string p.body] 37) = w1
  have hs0 : (w.setCell ⟨b, 2, none⟩ (.int .i64 ((s.n : Int) + 1))).heap.size = q := by rw [size_set, hq]
  have G1 : w.grownBy w1 (some b) := by rw [← hw1]; exact grown_alloc (grown_set _ _ _) _
  have C1 : Chg (fun k => k = b ∨ (Value.slice ad N cp).ownBlock = some k) w w1 := Chg.of G1 fun k e => .inl (by injection e with e; exact e.symm)
  have hs1 : w1.heap.size = q + 1 := by rw [← hw1]; simp [hs0]
  have GA : (w.setCell ⟨b, 2, none⟩ (.int .i64 ((s.n : Int) + 1))).grownBy w1 none := by rw [← hw1]; exact World.grownBy_alloc _ _ none
  have x0 : w1.cell? ⟨b, 0, none⟩ = some (.slice ad N cp) := GA.cell (by rw [set_other (by simp)]; exact c0) (by simp)
  have x1 : w1.cell? ⟨b, 1, none⟩ = some (.map (some bm)) := GA.cell (by rw [set_other (by simp)]; exact H1.out.c1) (by simp)
  have x2 : w1.cell? ⟨b, 2, none⟩ = some (.int .i64 ((s.n : Int) + 1)) := GA.cell (set_same c2) (by simp)
  have xf : ∀ i, w1.frozen? ⟨b, i, none⟩ = false := fun i => by
    rw [World.frozen?_of_block (a := ⟨b, i, none⟩) (GA.block b (by rw [size_set]; exact hbl) (by simp)), World.frozen?_setCell]
    exact H1.out.fr i
  have RQ : w1.rangeAt q 0 (eP.enc ⟨(s.n : Int) + 1, p.fm, p.tt, p.body⟩) := by rw [← hw1]; exact range_new _ ⟨(s.n : Int) + 1, p.fm, p.tt, p.body⟩ _ hs0.symm
  have q0 : w1.cell? ⟨q, 0, none⟩ = some (.int .i64 ((s.n : Int) + 1)) := RQ 0 _ rfl
  have q1 : w1.cell? ⟨q, 1, none⟩ = some (.int .i64 p.fm) := RQ 1 _ rfl
  have q2 : w1.cell? ⟨q, 2, none⟩ = some (.int .i64 p.tt) := RQ 2 _ rfl
  have q3 : w1.cell? ⟨q, 3, none⟩ = some (.string p.body) := RQ 3 _ rfl
  have vb := H1.out.vb
  have vlt := H1.out.lt.2.2
  have O1 : eP.Own w1 0 (.slice ad N cp) s.l := H1.out.row.kept (F := fun k => k = b) (Chg.of G1 fun k e => by injection e with e; exact e.symm) (fun k hk => (vb k hk).1)
  have OWN1 : Hid (∀ o, eP.Own (w1.drew.alloc o) 0 (.slice ad N cp) s.l) := fun o => O1.grown (grown_alloc (grown_drew (grown_refl w1 none)) o)
  have RX1 : Hid (eP.Rx (w1.drew.alloc (.cells #[.int .i64 ((s.n : Int) + 1), .int .i64 p.fm, .int .i64 p.tt, .string p.body] 37)) (.slice (some ⟨q + 1, 0, none⟩) 1 1) [⟨(s.n : Int) + 1, p.fm, p.tt, p.body⟩]) :=
    Elm.rx_one (E := eP) fun j u hu => by have := range_new w1.drew ⟨(s.n : Int) + 1, p.fm, p.tt, p.body⟩ 37 (q := q + 1) hs1.symm j u hu; rw [Nat.zero_add] at this; exact this
  have LEN : Hid (s.l.length ≤ 512) := H1.out.ok.len
  have KB : Hid (∀ o w2, (w1.drew.alloc o).grownBy w2 (Value.slice ad N cp).ownBlock → w2.cell? ⟨b, 0, none⟩ = some (.slice ad N cp) ∧ w2.frozen? ⟨b, 0, none⟩ = false ∧ w2.cell? ⟨q, 0, none⟩ = some (.int .i64 ((s.n : Int) + 1)) ∧ w2.cell? ⟨b, 1, none⟩ = some (.map (some bm)) ∧ w2.cell? ⟨b, 2, none⟩ = some (.int .i64 ((s.n : Int) + 1)) ∧ (∀ i, w2.frozen? ⟨b, i, none⟩ = false) ∧ Chg (fun k => k = b ∨ (Value.slice ad N cp).ownBlock = some k) w w2) := fun o w2 hg => by
    have GD : w1.grownBy (w1.drew.alloc o) none := grown_alloc (grown_drew (grown_refl w1 none)) o
    have nb : some b ≠ (Value.slice ad N cp).ownBlock := fun e => (vb b e.symm).1 rfl
    have nq : some q ≠ (Value.slice ad N cp).ownBlock := fun e => by have := vlt q e.symm; omega
    have F2 : ∀ i, w2.frozen? ⟨b, i, none⟩ = false := fun i => by
      rw [World.frozen?_of_block (a := ⟨b, i, none⟩) (hg.block b (by have := GD.size; omega) nb), World.frozen?_of_block (a := ⟨b, i, none⟩) (GD.block b (by omega) (by simp))]
      exact xf i
    exact ⟨hg.cell (GD.cell x0 (by simp)) nb, F2 0, hg.cell (GD.cell q0 (by simp)) nq, hg.cell (GD.cell x1 (by simp)) nb, hg.cell (GD.cell x2 (by simp)) nb, F2, (C1.grown GD (by simp)).grown hg fun k e => .inl (.inr e)⟩
  have hbq : b < q := by omega
  have hbq1 : b ≠ q + 1 := by omega
  have FIN : Hid (∀ (a2 : Option Addr) (n2 c2 : Nat) (o : Obj) (w2 : World), eP.Own w2 0 (.slice a2 n2 c2) (s.l ++ [⟨(s.n : Int) + 1, p.fm, p.tt, p.body⟩]) → (w1.drew.alloc o).grownBy w2 (Value.slice ad N cp).ownBlock → ((Value.slice a2 n2 c2).ownBlock = (Value.slice ad N cp).ownBlock ∨ (Value.slice a2 n2 c2).ownBlock = some (w1.drew.alloc o).heap.size) →
      ∃ F', Me (w2.setCell ⟨b, 0, none⟩ (.slice a2 n2 c2)) b ⟨s.l ++ [⟨(s.n : Int) + 1, p.fm, p.tt, p.body⟩], s.n + 1, s.cs⟩ F' ∧ (∀ k, F' k → F k ∨ w.heap.size ≤ k) ∧ Chg F w (w2.setCell ⟨b, 0, none⟩ (.slice a2 n2 c2))) := fun a2 n2 c2 o w2 hO2 hg2 hl2 => by
    obtain ⟨k0, kf, kq, k1, k2, kfr, C2⟩ := KB.out _ _ hg2
    have G3 : w2.grownBy (w2.setCell ⟨b, 0, none⟩ (.slice a2 n2 c2)) (some b) := grown_set _ _ _
    have hd : (w1.drew.alloc o).heap.size = q + 2 := by show (w1.alloc o).heap.size = _; simp [hs1]
    have nv : ∀ k, (Value.slice a2 n2 c2).ownBlock = some k → (Value.slice ad N cp).ownBlock = some k ∨ w.heap.size ≤ k := fun k hk => by
      rcases hl2 with e | e
      · exact .inl (by rw [← e]; exact hk)
      · rw [hk, hd] at e; injection e with e; exact .inr (by omega)
    have C4 := C2.grown G3 fun k e => .inl (.inl (by injection e with e; exact e.symm))
    refine H1.out.turn (n := s.n + 1) h2 C4 (set_same k0) (by rw [set_other (by simp)]; exact k1) (by rw [set_other (by simp)]; exact k2) (fun i => by rw [World.frozen?_setCell]; exact kfr i) (hO2.but G3 fun k hk e => ?_) nv ?_ ?_
    · injection e with e
      subst e
      rcases nv b hk with e | e
      · exact (vb b e).1 rfl
      · omega
    · have := ok_ent H1.out.ok p hp
      unfold entS at this
      rw [if_neg LNE.out] at this
      exact this
    · intro x hx
      rcases List.mem_append.1 hx with hx | hx
      · exact H1.out.i64 x hx
      · simp at hx
        subst hx
        exact ⟨hf, ht⟩
  clear hw1 GA C1 G1 RQ vb O1 c0 c2 hs0 x1 x2 fr0 fr2 hln xf hq
  go_region_law (refine step_of rfl (Elm.wp_append (E := eP) (.tmp 28) (.tmp 30) rfl 0 (.slice ad N cp) s.l rfl (OWN1.out _) _ [⟨(s.n : Int) + 1, p.fm, p.tt, p.body⟩] rfl RX1.out (by have := LEN.out; simp; omega) (by have := LEN.out; simp [eP]; omega) (by simp) ?_); intro a2 n2 c2 w2 hO2 hg2 hl2; obtain ⟨k0, kf, kq, k1, k2, kfr, C2⟩ := KB.out _ _ hg2)
  all_goals go_wp2
  all_goals go_ret2
  all_goals exact ⟨rfl, FIN.out _ _ _ _ _ hO2 hg2 hl2⟩
/-- What enter answers, and makes of a mesh. -/
theorem enter_any (b : Nat) (s : Ms) (F : Nat → Prop) (p : Pk) (w : World) (h : Me w b s F) (hn : s.n ≤ 1000000) (hp : p.body.size ≤ 65536) (hf : I64 p.fm) (ht : I64 p.tt) :
    Calls Try.prog 25 #[.pointer (some ⟨b, 0, none⟩), pv p] w fun e w' => e = .returned (.tuple #[.int .i64 (entI s), .int .i64 (entE s.l)]) ∧ ∃ F', Me w' b (entS s p) F' ∧ (∀ k, F' k → F k ∨ w.heap.size ≤ k) ∧ Chg F w w' := by
  by_cases hl : s.l.length = 512
  · obtain ⟨bm, v, h1, h2⟩ := id h
    refine (enter_full b bm v s p w h1 hl).mono ?_
    rintro e w' ⟨rfl, hg⟩
    unfold entI entE entS
    rw [if_pos hl, if_pos hl, if_pos hl]
    exact ⟨rfl, F, h.grown hg, fun k hk => .inl hk, Chg.of hg (by simp)⟩
  · refine (enter_ok b s F p w h hl hn hp hf ht).mono ?_
    unfold entI entE entS
    rw [if_neg hl, if_neg hl, if_neg hl]
    exact fun e w' h => h
end Go.Proofs.Ytffbaomaiohdiaa
