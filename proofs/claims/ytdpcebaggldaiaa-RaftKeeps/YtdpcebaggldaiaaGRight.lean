/- Which nodes are right: ranges, what is kept, the rest. -/
import Derived.Test.YtdpcebaggldaiaaGBase
import Derived.Test.YtdpcebaggldaiaaTMore2
import Derived.Test.YtdpcebaggldaiaaMc
namespace Go.Proofs.Ytdpcebaggldaiaa
open Go.RowKit Trl
open Rft (Nd Mg)
set_option linter.unusedVariables false
set_option maxRecDepth 10000

/-- A node that is read. -/
structure Rdn (w : World) (r : Nd) (V : Sv) : Prop where
  c : eK.Rx w (.slice V.c.a V.c.n V.c.c) r.conf
  e : Sl w (.slice V.e.a V.e.n V.e.c) r.l
  v : eK.Rx w (.slice V.v.a V.v.n V.v.c) r.votes
  n : eN.Rx w (.slice V.n.a V.n.n V.n.c) r.next
  m : eN.Rx w (.slice V.m.a V.m.n V.m.c) r.mat
  cl : V.c.n = r.conf.length
  el : V.e.n = r.l.length
  vl : V.v.n = r.votes.length
  nl : V.n.n = r.next.length
  ml : V.m.n = r.mat.length
  cb : r.conf.length * 8 ≤ 140737488351232
  eb : r.l.length * 24 ≤ 140737488351232
  vb : r.votes.length * 8 ≤ 140737488351232
  nb : r.next.length * 8 ≤ 140737488351232
  mb : r.mat.length * 8 ≤ 140737488351232
  vc : V.v.n ≤ V.v.c ∧ V.v.c ≤ 9223372036854775807
theorem Rdn.grown {w w' : World} {r : Nd} {V : Sv} (h : Rdn w r V) (g : w.grownBy w' none) : Rdn w' r V := ⟨h.c.grown g, h.e.grown g, h.v.grown g, h.n.grown g, h.m.grown g, h.cl, h.el, h.vl, h.nl, h.ml, h.cb, h.eb, h.vb, h.nb, h.mb, h.vc⟩
theorem box_node {w W : World} {r : Nd} {V : Sv} {t : TypeId} (g : (w.alloc (.cells #[.int .i64 r.id, .slice V.c.a V.c.n V.c.c, .int .i64 r.term, .int .i64 r.vote, .int .i64 r.role, .int .i64 r.lead, .int .i64 r.b, .int .i64 r.k, .slice V.e.a V.e.n V.e.c, .string r.snap, .int .i64 r.com, .int .i64 r.left, .int .i64 r.wait, .slice V.v.a V.v.n V.v.c, .slice V.n.a V.n.n V.n.c, .slice V.m.a V.m.n V.m.c] t)).grownBy W none) : Cs W w.heap.size (nc r V) ∧ w.grownBy W none :=
  ⟨⟨fun j v hv => by rw [Nat.zero_add]; exact cell_kept g j v (by simpa using hv), fun i => frozen_kept g i, by have := g.size; simp at this; omega⟩, grown_tr (World.grownBy_alloc w _ none) g⟩
set_option maxRecDepth 100000 in
theorem withinK_any (x lo hi : Int) (w : World) : Calls Try.prog 28 #[.int .i64 x, .int .i64 lo, .int .i64 hi] w fun e w' => e = .returned (.bool (decide (lo ≤ x ∧ x ≤ hi))) ∧ w' = w := by
  by_cases h : lo ≤ x
  · go_enter Try.func28, Try.ntmps28
    go_wp2
    go_ret
    exact ⟨ret_bool (by simp [h]), rfl⟩
  · go_enter Try.func28, Try.ntmps28
    go_wp2
    go_ret
    exact ⟨ret_bool (by simp; omega), rfl⟩
set_option maxRecDepth 100000 in
theorem withinN_any (x lo hi : Int) (w : World) : Calls Try.prog 29 #[.int .i64 x, .int .i64 lo, .int .i64 hi] w fun e w' => e = .returned (.bool (decide (lo ≤ x ∧ x ≤ hi))) ∧ w' = w := by
  by_cases h : lo ≤ x
  · go_enter Try.func29, Try.ntmps29
    go_wp2
    go_ret
    exact ⟨ret_bool (by simp [h]), rfl⟩
  · go_enter Try.func29, Try.ntmps29
    go_wp2
    go_ret
    exact ⟨ret_bool (by simp; omega), rfl⟩
/-- None, or one of the group. -/
def Rft.orIn (c : List Int) (x : Int) : Bool := decide (x = 0) || Quo.has c x
set_option maxRecDepth 100000 in
theorem noneOrIn_any (v : Value) (l : List Int) (x : Int) (w : World) (h : eK.Rx w v l) (hl : l.length ≤ 9223372036854775807) : Calls Try.prog 42 #[v, .int .i64 x] w fun e w' => e = .returned (.bool (Rft.orIn l x)) ∧ w' = w := by
  have CO := contains_any v l x w h hl
  unfold Rft.orIn
  clear h
  by_cases hx : x = 0
  · subst hx
    go_enter Try.func42, Try.ntmps42
    go_wp2
    go_ret
    exact ⟨ret_bool (by simp), rfl⟩
  · have hx2 : (x == 0) = false := by simpa using hx
    go_enter Try.func42, Try.ntmps42
    go_wp2_with (go_at_call 22; (with_reducible refine CO.mono ?_); rintro e w1 ⟨rfl, h1⟩; subst h1)
    go_ret
    exact ⟨ret_bool (by simp [hx]), rfl⟩
/-- What is kept is right. -/
def Rft.keptOk (r : Nd) : Bool := decide (0 ≤ r.term ∧ r.term ≤ 1099511627776) && Rft.orIn r.conf r.vote && decide (r.snap.size ≤ 60000) && (chk r.b r.k r.l && decide (r.lastt ≤ r.term))
set_option maxRecDepth 100000 in
set_option maxHeartbeats 1600000 in
theorem rightKept_any (r : Nd) (V : Sv) (w : World) (h : Rdn w r V) : Calls Try.prog 23 #[nv r V] w fun e w' => e = .returned (.bool (Rft.keptOk r)) ∧ w.grownBy w' none := by
  have cb := h.cb
  have WT : Hid (∀ W, _) := fun W => withinN_any r.term 0 1099511627776 W
  have NI : Hid (∀ W, w.grownBy W none → _) := fun W g => noneOrIn_any _ r.conf r.vote W (h.c.grown g) (by omega)
  have LA : Hid (∀ W, w.grownBy W none → _) := fun W g => last_or r.b r.k _ r.l W (h.e.grown g)
  have CK : Hid (∀ W, w.grownBy W none → _) := fun W g => check_any r.b r.k _ r.l W (h.e.grown g)
  have BX : Hid (∀ {W : World}, (w.alloc (.cells #[.int .i64 r.id, .slice V.c.a V.c.n V.c.c, .int .i64 r.term, .int .i64 r.vote, .int .i64 r.role, .int .i64 r.lead, .int .i64 r.b, .int .i64 r.k, .slice V.e.a V.e.n V.e.c, .string r.snap, .int .i64 r.com, .int .i64 r.left, .int .i64 r.wait, .slice V.v.a V.v.n V.v.c, .slice V.n.a V.n.n V.n.c, .slice V.m.a V.m.n V.m.c] 28)).grownBy W none → W.cell? ⟨w.heap.size, 2, none⟩ = some (.int .i64 r.term) ∧ W.cell? ⟨w.heap.size, 6, none⟩ = some (.int .i64 r.b) ∧ W.cell? ⟨w.heap.size, 7, none⟩ = some (.int .i64 r.k) ∧ W.cell? ⟨w.heap.size, 8, none⟩ = some (.slice V.e.a V.e.n V.e.c) ∧ w.grownBy W none) := fun {W} g => by
    obtain ⟨hc, hg⟩ := box_node g
    exact ⟨hc.at_ 2 rfl, hc.at_ 6 rfl, hc.at_ 7 rfl, hc.at_ 8 rfl, hg⟩
  have G0 : Hid (∀ o, w.grownBy (w.alloc o) none) := fun o => World.grownBy_alloc w o none
  have hR : Hid (Rft.keptOk r = (decide (0 ≤ r.term ∧ r.term ≤ 1099511627776) && Rft.orIn r.conf r.vote && decide (r.snap.size ≤ 60000) && (chk r.b r.k r.l && decide (r.lastt ≤ r.term)))) := rfl
  have KE : Hid (chk r.b r.k r.l = true → lastK r.b r.k r.l = r.lastt) := fun hc => by unfold lastK; rw [if_pos hc]; rfl
  generalize Rft.keptOk r = R at *
  generalize hA : decide (0 ≤ r.term ∧ r.term ≤ 1099511627776) = A at *
  generalize hB : Rft.orIn r.conf r.vote = B at *
  generalize hC : chk r.b r.k r.l = C at *
  generalize lastK r.b r.k r.l = q at *
  generalize lastN r.b r.k r.l = q' at *
  clear h hA hB hC cb
  cases A with
  | false =>
    have hR' : Hid (R = false) := hR.out.trans rfl
    go_enter Try.func23, Try.ntmps23
    go_wp2_with (go_at_call 29; (with_reducible refine (WT.out _).mono ?_); rintro e w1 ⟨rfl, h1⟩; subst h1)
    go_ret
    exact ⟨by rw [hR'.out]; rfl, G0.out _⟩
  | true =>
  cases B with
  | false =>
    have hR' : Hid (R = false) := hR.out.trans (by simp)
    go_enter Try.func23, Try.ntmps23
    go_wp2_with (first
      | (go_at_call 29; (with_reducible refine (WT.out _).mono ?_); rintro e w1 ⟨rfl, h1⟩; subst h1)
      | (go_at_call 42; (with_reducible refine (NI.out _ (G0.out _)).mono ?_); rintro e w1 ⟨rfl, h1⟩; subst h1))
    go_ret
    exact ⟨by rw [hR'.out]; rfl, G0.out _⟩
  | true =>
  by_cases hs : r.snap.size ≤ 60000
  · have hs2 : ¬ (60000 : Int) < (r.snap.size : Int) := by omega
    have hs3 : decide ((60000 : Int) < (r.snap.size : Int)) = false := decide_eq_false hs2
    cases C with
    | false =>
      have hR' : Hid (R = false) := hR.out.trans (by simp)
      go_enter Try.func23, Try.ntmps23
      go_wp2_with (first
        | (go_at_call 29; (with_reducible refine (WT.out _).mono ?_); rintro e w1 ⟨rfl, h1⟩; subst h1)
        | (go_at_call 42; (with_reducible refine (NI.out _ (G0.out _)).mono ?_); rintro e w1 ⟨rfl, h1⟩; subst h1)
        | (go_at_call 43; (with_reducible refine (LA.out _ (G0.out _)).mono ?_); rintro e w2 ⟨rfl, g2⟩; obtain ⟨d2, d6, d7, d8, G2⟩ := BX.out g2)
        | (go_at_call 44; (with_reducible refine (CK.out _ G2).mono ?_); rintro e w3 ⟨rfl, g3⟩))
      go_ret
      exact ⟨by rw [hR'.out]; rfl, grown_tr G2 g3⟩
    | true =>
      have hq : Hid (q = r.lastt) := KE.out rfl
      have hR' : Hid (R = decide (q ≤ r.term)) := hR.out.trans (by rw [hq.out, decide_eq_true hs]; simp)
      go_enter Try.func23, Try.ntmps23
      go_wp2_with (first
        | (go_at_call 29; (with_reducible refine (WT.out _).mono ?_); rintro e w1 ⟨rfl, h1⟩; subst h1)
        | (go_at_call 42; (with_reducible refine (NI.out _ (G0.out _)).mono ?_); rintro e w1 ⟨rfl, h1⟩; subst h1)
        | (go_at_call 43; (with_reducible refine (LA.out _ (G0.out _)).mono ?_); rintro e w2 ⟨rfl, g2⟩; obtain ⟨d2, d6, d7, d8, G2⟩ := BX.out g2)
        | (go_at_call 44; (with_reducible refine (CK.out _ G2).mono ?_); rintro e w3 ⟨rfl, g3⟩; obtain ⟨e2, _⟩ := BX.out (grown_tr g2 g3)))
      go_ret
      exact ⟨by rw [hR'.out]; rfl, grown_tr G2 g3⟩
  · have hs2 : (60000 : Int) < (r.snap.size : Int) := by omega
    have hs3 : decide ((60000 : Int) < (r.snap.size : Int)) = true := decide_eq_true hs2
    have hR' : Hid (R = false) := hR.out.trans (by rw [decide_eq_false hs]; simp)
    go_enter Try.func23, Try.ntmps23
    go_wp2_with (first
      | (go_at_call 29; (with_reducible refine (WT.out _).mono ?_); rintro e w1 ⟨rfl, h1⟩; subst h1)
      | (go_at_call 42; (with_reducible refine (NI.out _ (G0.out _)).mono ?_); rintro e w1 ⟨rfl, h1⟩; subst h1))
    go_ret
    exact ⟨by rw [hR'.out]; rfl, G0.out _⟩
end Go.Proofs.Ytdpcebaggldaiaa
