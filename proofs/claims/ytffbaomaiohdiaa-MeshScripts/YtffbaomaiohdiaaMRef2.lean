/- The reference's mesh: out, Send, Cut, Join. -/
import Derived.Test.YtffbaomaiohdiaaMRef
import Derived.Deep.RegionHeld3
namespace Go.Proofs.Ytffbaomaiohdiaa
open Go.RowKit Msh
set_option linter.unusedVariables false
set_option maxRecDepth 10000

/-- Its packets, or its number, have turned. -/
theorem RmD.turn {w w3 : World} {q : Nat} {vl vc v' : Value} {s : Ms} {F : Nat → Prop} {l : List Pk} {n : Nat} (h : RmD w q vl vc s) (h2 : ∀ k, F k ↔ (k = q ∨ vl.ownBlock = some k ∨ vc.ownBlock = some k)) (C : Chg (fun k => k = q ∨ vl.ownBlock = some k) w w3)
    (c0 : w3.cell? ⟨q, 0, none⟩ = some v') (c1 : w3.cell? ⟨q, 1, none⟩ = some (.int .i64 (n : Int))) (c2 : w3.cell? ⟨q, 2, none⟩ = some vc) (fr : ∀ i, w3.frozen? ⟨q, i, none⟩ = false) (row : eP.Own w3 0 v' l) (hv : ∀ k, v'.ownBlock = some k → vl.ownBlock = some k ∨ w.heap.size ≤ k)
    (ok : Ok ⟨l, n, s.cs⟩) : RLeft w w3 q ⟨l, n, s.cs⟩ F := by
  have hlt := h.lt
  have hvc : ∀ k, vc.ownBlock = some k → ¬ (k = q ∨ vl.ownBlock = some k) := fun k hk c => by
    rcases c with e | e
    · exact h.cq k hk e
    · exact h.lc k e hk
  refine ⟨fun k => k = q ∨ v'.ownBlock = some k ∨ vc.ownBlock = some k, ⟨v', vc, ⟨c0, c1, c2, fr, row, h.cuts.kept C hvc, fun k hk => ?_, h.cq, fun k hk e => ?_, ok⟩, fun _ => Iff.rfl⟩, fun k hk => ?_, C.wide fun k hk => (h2 k).2 ?_⟩
  · rcases hv k hk with e | e
    · exact h.lq k e
    · omega
  · rcases hv k hk with e1 | e1
    · exact h.lc k e1 e
    · have := hlt.2.2 k e; omega
  · rcases hk with e | e | e
    · exact .inl ((h2 k).2 (.inl e))
    · rcases hv k e with e | e
      · exact .inl ((h2 k).2 (.inr (.inl e)))
      · exact .inr e
    · exact .inl ((h2 k).2 (.inr (.inr e)))
  · rcases hk with e | e
    · exact .inl e
    · exact .inr (.inl e)
/-- Its cuts have turned. -/
theorem RmD.cutsTurn {w w3 : World} {q : Nat} {vl vc v' : Value} {s : Ms} {F : Nat → Prop} {cs : List (Int × Int)} (h : RmD w q vl vc s) (h2 : ∀ k, F k ↔ (k = q ∨ vl.ownBlock = some k ∨ vc.ownBlock = some k)) (C : Chg (fun k => k = q ∨ vc.ownBlock = some k) w w3)
    (c0 : w3.cell? ⟨q, 0, none⟩ = some vl) (c1 : w3.cell? ⟨q, 1, none⟩ = some (.int .i64 (s.n : Int))) (c2 : w3.cell? ⟨q, 2, none⟩ = some v') (fr : ∀ i, w3.frozen? ⟨q, i, none⟩ = false) (row : eC.Own w3 0 v' cs) (hv : ∀ k, v'.ownBlock = some k → vc.ownBlock = some k ∨ w.heap.size ≤ k) : RLeft w w3 q ⟨s.l, s.n, cs⟩ F := by
  have hlt := h.lt
  have hvl : ∀ k, vl.ownBlock = some k → ¬ (k = q ∨ vc.ownBlock = some k) := fun k hk c => by
    rcases c with e | e
    · exact h.lq k hk e
    · exact h.lc k hk e
  refine ⟨fun k => k = q ∨ vl.ownBlock = some k ∨ v'.ownBlock = some k, ⟨vl, v', ⟨c0, c1, c2, fr, h.row.kept C hvl, row, h.lq, fun k hk => ?_, fun k hk e => ?_, ok_cs h.ok cs⟩, fun _ => Iff.rfl⟩, fun k hk => ?_, C.wide fun k hk => (h2 k).2 ?_⟩
  · rcases hv k hk with e | e
    · exact h.cq k e
    · omega
  · rcases hv k e with e1 | e1
    · exact h.lc k hk e1
    · have := hlt.2.1 k hk; omega
  · rcases hk with e | e | e
    · exact .inl ((h2 k).2 (.inl e))
    · exact .inl ((h2 k).2 (.inr (.inl e)))
    · rcases hv k e with e | e
      · exact .inl ((h2 k).2 (.inr (.inr e)))
      · exact .inr e
  · rcases hk with e | e
    · exact .inl e
    · exact .inr (.inr e)
set_option maxRecDepth 100000 in
set_option maxHeartbeats 1600000 in
theorem rsend_ok (q : Nat) (s : Ms) (F : Nat → Prop) (fm tt : Int) (body : ByteArray) (w : World) (h : Rm w q s F) (hl : s.l.length ≠ 512) (hn : s.n ≤ 1000000) (hb : body.size ≤ 65536) :
    Calls Try.prog 10 #[.pointer (some ⟨q, 0, none⟩), .int .i64 fm, .int .i64 tt, .string body] w fun e w' => e = .returned (.tuple #[.int .i64 ((s.n : Int) + 1), .int .i64 0]) ∧ RLeft w w' q ⟨s.l ++ [⟨(s.n : Int) + 1, fm, tt, body⟩], s.n + 1, s.cs⟩ F := by
  obtain ⟨vl, vc, h1, h2⟩ := h
  obtain ⟨ad, cp, hv⟩ := h1.row.rx.form
  have hlen := h1.ok.len
  subst hv
  obtain ⟨N, hN⟩ : ∃ N, s.l.length = N := ⟨_, rfl⟩
  have NL : Hid (s.l.length = N) := hN
  have LNE : Hid (¬ s.l.length = 512) := hl
  rw [hN] at h1 h2 hlen hl
  have H1 : Hid (RmD w q (.slice ad N cp) vc s) := h1
  have c0 := h1.c0
  have c1 := h1.c1
  have fr1 := h1.fr 1
  have hql := h1.lt.1
  have hln : decide ((N : Int) ≥ 512) = false := decide_eq_false (by omega)
  have hln2 : decide (512 ≤ (N : Int)) = false := decide_eq_false (by omega)
  clear h1 hN
  go_enter Try.func10, Try.ntmps10
  go_upto_region 6 with fail
  generalize hw1 : w.setCell ⟨q, 1, none⟩ (.int .i64 ((s.n : Int) + 1)) = w1
  have hs1 : Hid (w1.heap.size = w.heap.size) := by show _ = _; rw [← hw1]; exact size_set _ _ _
  have G1 : w.grownBy w1 (some q) := by rw [← hw1]; exact grown_set _ _ _
  have C1 : Chg (fun k => k = q ∨ (Value.slice ad N cp).ownBlock = some k) w w1 := Chg.of G1 fun k e => .inl (by injection e with e; exact e.symm)
  have x0 : w1.cell? ⟨q, 0, none⟩ = some (.slice ad N cp) := by rw [← hw1, set_other (by simp)]; exact c0
  have x2 : w1.cell? ⟨q, 2, none⟩ = some vc := by rw [← hw1, set_other (by simp)]; exact H1.out.c2
  have x1 : w1.cell? ⟨q, 1, none⟩ = some (.int .i64 ((s.n : Int) + 1)) := by rw [← hw1]; exact set_same c1
  have xf : ∀ i, w1.frozen? ⟨q, i, none⟩ = false := fun i => by rw [← hw1, World.frozen?_setCell]; exact H1.out.fr i
  have lq := H1.out.lq
  have vlt := H1.out.lt.2.1
  have O1 : eP.Own w1 0 (.slice ad N cp) s.l := H1.out.row.kept (F := fun k => k = q) (Chg.of G1 fun k e => by injection e with e; exact e.symm) (fun k hk => lq k hk)
  have OWN1 : Hid (∀ o, eP.Own (w1.drew.alloc o) 0 (.slice ad N cp) s.l) := fun o => O1.grown (grown_alloc (grown_drew (grown_refl w1 none)) o)
  have RX1 : Hid (eP.Rx (w1.drew.alloc (.cells #[.int .i64 ((s.n : Int) + 1), .int .i64 fm, .int .i64 tt, .string body] 37)) (.slice (some ⟨w1.heap.size, 0, none⟩) 1 1) [⟨(s.n : Int) + 1, fm, tt, body⟩]) :=
    Elm.rx_one (E := eP) fun j u hu => by have := range_new w1.drew ⟨(s.n : Int) + 1, fm, tt, body⟩ 37 rfl j u hu; rw [Nat.zero_add] at this; exact this
  have LEN : Hid (s.l.length ≤ 512) := H1.out.ok.len
  have KB : Hid (∀ o w2, (w1.drew.alloc o).grownBy w2 (Value.slice ad N cp).ownBlock → w2.cell? ⟨q, 0, none⟩ = some (.slice ad N cp) ∧ w2.cell? ⟨q, 1, none⟩ = some (.int .i64 ((s.n : Int) + 1)) ∧ w2.cell? ⟨q, 2, none⟩ = some vc ∧ (∀ i, w2.frozen? ⟨q, i, none⟩ = false) ∧ Chg (fun k => k = q ∨ (Value.slice ad N cp).ownBlock = some k) w w2) := fun o w2 hg => by
    have GD : w1.grownBy (w1.drew.alloc o) none := grown_alloc (grown_drew (grown_refl w1 none)) o
    have nb : some q ≠ (Value.slice ad N cp).ownBlock := fun e => lq q e.symm rfl
    have hq1 : q < w1.heap.size := by rw [hs1.out]; exact hql
    have F2 : ∀ i, w2.frozen? ⟨q, i, none⟩ = false := fun i => by
      rw [World.frozen?_of_block (a := ⟨q, i, none⟩) (hg.block q (by have := GD.size; omega) nb), World.frozen?_of_block (a := ⟨q, i, none⟩) (GD.block q hq1 (by simp))]
      exact xf i
    exact ⟨hg.cell (GD.cell x0 (by simp)) nb, hg.cell (GD.cell x1 (by simp)) nb, hg.cell (GD.cell x2 (by simp)) nb, F2, (C1.grown GD (by simp)).grown hg fun k e => .inl (.inr e)⟩
  have FIN : Hid (∀ (a2 : Option Addr) (n2 c2 : Nat) (o : Obj) (w2 : World), eP.Own w2 0 (.slice a2 n2 c2) (s.l ++ [⟨(s.n : Int) + 1, fm, tt, body⟩]) → (w1.drew.alloc o).grownBy w2 (Value.slice ad N cp).ownBlock → ((Value.slice a2 n2 c2).ownBlock = (Value.slice ad N cp).ownBlock ∨ (Value.slice a2 n2 c2).ownBlock = some (w1.drew.alloc o).heap.size) →
      RLeft w (w2.setCell ⟨q, 0, none⟩ (.slice a2 n2 c2)) q ⟨s.l ++ [⟨(s.n : Int) + 1, fm, tt, body⟩], s.n + 1, s.cs⟩ F) := fun a2 n2 c2 o w2 hO2 hg2 hl2 => by
    obtain ⟨k0, k1, k2, kfr, C2⟩ := KB.out _ _ hg2
    have G3 : w2.grownBy (w2.setCell ⟨q, 0, none⟩ (.slice a2 n2 c2)) (some q) := grown_set _ _ _
    have hd : (w1.drew.alloc o).heap.size = w.heap.size + 1 := by show (w1.alloc o).heap.size = _; simp [hs1.out]
    have nv : ∀ k, (Value.slice a2 n2 c2).ownBlock = some k → (Value.slice ad N cp).ownBlock = some k ∨ w.heap.size ≤ k := fun k hk => by
      rcases hl2 with e | e
      · exact .inl (by rw [← e]; exact hk)
      · rw [hk, hd] at e; injection e with e; exact .inr (by omega)
    have C4 := C2.grown G3 fun k e => .inl (.inl (by injection e with e; exact e.symm))
    refine H1.out.turn (n := s.n + 1) h2 C4 (set_same k0) (by rw [set_other (by simp)]; exact k1) (by rw [set_other (by simp)]; exact k2) (fun i => by rw [World.frozen?_setCell]; exact kfr i) (hO2.but G3 fun k hk e => ?_) nv ?_
    · injection e with e
      subst e
      rcases nv q hk with e | e
      · exact lq q e rfl
      · omega
    · have := ok_ent H1.out.ok ⟨0, fm, tt, body⟩ hb
      unfold entS at this
      rw [if_neg LNE.out] at this
      exact this
  have hq1 : q < w1.heap.size := by rw [hs1.out]; exact hql
  have x0d : w1.drew.cell? ⟨q, 0, none⟩ = some (.slice ad N cp) := x0
  have x1d : w1.drew.cell? ⟨q, 1, none⟩ = some (.int .i64 ((s.n : Int) + 1)) := x1
  have XA : ∀ o, (w1.drew.alloc o).cell? ⟨q, 0, none⟩ = some (.slice ad N cp) ∧ (w1.drew.alloc o).cell? ⟨q, 1, none⟩ = some (.int .i64 ((s.n : Int) + 1)) := fun o => ⟨(grown_alloc (grown_drew (grown_refl w1 none)) o).cell x0 (by simp), (grown_alloc (grown_drew (grown_refl w1 none)) o).cell x1 (by simp)⟩
  clear hw1 C1 G1 lq O1 c0 c1 x2 xf fr1 hln hln2
  clear XA
  go_region_law (refine step_of rfl (Elm.wp_append (E := eP) (.tmp 30) (.tmp 39) rfl 0 (.slice ad N cp) s.l rfl (OWN1.out _) _ [⟨(s.n : Int) + 1, fm, tt, body⟩] rfl RX1.out (by have := LEN.out; simp; omega) (by have := LEN.out; simp [eP]; omega) (Nat.zero_le _) ?_); intro a2 n2 c2 w2 hO2 hg2 hl2; obtain ⟨k0, k1, k2, kfr, C2⟩ := KB.out _ _ hg2; have kf0 := kfr 0)
  all_goals go_wp2
  all_goals go_ret2
  all_goals exact ⟨rfl, FIN.out _ _ _ _ _ hO2 hg2 hl2⟩
end Go.Proofs.Ytffbaomaiohdiaa
