/- A node at work: it enters a term, obeys, lets its log grow, keeps its own numbers. -/
import Derived.Test.YtdpcebaggldaiaaGAgree
import Derived.Deep.CutRange
import Derived.Deep.CutBlock
namespace Go.Proofs.Ytdpcebaggldaiaa
open Go.RowKit Trl
open Rft (Nd Mg)
set_option linter.unusedVariables false
set_option maxRecDepth 10000

/-- A later term. -/
def Rft.ent (r : Nd) (t : Int) : Nd := { Rft.clear r with term := t, vote := 0, role := 0, lead := 0 }
def Rft.obey (r : Nd) (x : Int) : Nd := { r with role := 0, votes := [], lead := x, left := r.wait }
set_option maxRecDepth 100000 in
set_option maxHeartbeats 800000 in
theorem enter_b {w : World} {base b : Nat} {r : Nd} {L : List Mg} {c : S3} (t : Int) (h : Ob w base b r L c) :
    Calls Try.prog 31 #[.pointer (some ⟨b, 0, none⟩), .int .i64 t] w fun e w' => e = .returned (.tuple #[]) ∧ Ob w' base b (Rft.ent r t) L c ∧ Chg (fun k => k = b) w w' := by
  obtain ⟨X, V, s, T, h0, hX, rfl⟩ := id h
  have c2 := h0.cs.at_ 2 rfl
  have c3 := h0.cs.at_ 3 rfl
  have c4 := h0.cs.at_ 4 rfl
  have c5 := h0.cs.at_ 5 rfl
  have c13 := h0.cs.at_ 13 rfl
  have c14 := h0.cs.at_ 14 rfl
  have c15 := h0.cs.at_ 15 rfl
  have f2 := h0.cs.2.1 2
  have f3 := h0.cs.2.1 3
  have f4 := h0.cs.2.1 4
  have f5 := h0.cs.2.1 5
  have f13 := h0.cs.2.1 13
  have f14 := h0.cs.2.1 14
  have f15 := h0.cs.2.1 15
  have H0 : Hid (Oc w base b r X V s T) := h0
  have HX : Hid (X.map (·.1) = L) := hX
  clear h h0 hX
  go_enter Try.func31, Try.ntmps31
  go_wp2_with fail
  go_end0
  have C := chg_setb (chg_setb (chg_setb (chg_setb (chg_setb (chg_setb (chg_setb (Chg.refl (fun k => k = b) w) b 2 (.int .i64 t) rfl) b 3 (.int .i64 0) rfl) b 5 (.int .i64 0) rfl) b 4 (.int .i64 0) rfl) b 13 (.slice none 0 0) rfl) b 14 (.slice none 0 0) rfl) b 15 (.slice none 0 0) rfl
  exact ⟨rfl, ⟨X, { V with v := nil3, n := nil3, m := nil3 }, s, T, H0.out.turn C (((((((H0.out.cs.set 2 _).set 3 _).set 5 _).set 4 _).set 13 _).set 14 _).set 15 _) ⟨rfl, rfl⟩ (.inl ⟨rfl, rfl⟩) (.inr ⟨rfl, rfl⟩) (.inr ⟨rfl, rfl⟩) (.inr ⟨rfl, rfl⟩), HX.out, rfl⟩, C⟩
set_option maxRecDepth 100000 in
set_option maxHeartbeats 800000 in
theorem obey_b {w : World} {base b : Nat} {r : Nd} {L : List Mg} {c : S3} (x : Int) (h : Ob w base b r L c) :
    Calls Try.prog 55 #[.pointer (some ⟨b, 0, none⟩), .int .i64 x] w fun e w' => e = .returned (.tuple #[]) ∧ Ob w' base b (Rft.obey r x) L c ∧ Chg (fun k => k = b) w w' := by
  obtain ⟨X, V, s, T, h0, hX, rfl⟩ := id h
  have c4 := h0.cs.at_ 4 rfl
  have c5 := h0.cs.at_ 5 rfl
  have c11 := h0.cs.at_ 11 rfl
  have c12 := h0.cs.at_ 12 rfl
  have c13 := h0.cs.at_ 13 rfl
  have f4 := h0.cs.2.1 4
  have f5 := h0.cs.2.1 5
  have f11 := h0.cs.2.1 11
  have f13 := h0.cs.2.1 13
  have H0 : Hid (Oc w base b r X V s T) := h0
  have HX : Hid (X.map (·.1) = L) := hX
  clear h h0 hX
  go_enter Try.func55, Try.ntmps55
  go_wp2_with fail
  go_end0
  have C := chg_setb (chg_setb (chg_setb (chg_setb (Chg.refl (fun k => k = b) w) b 4 (.int .i64 0) rfl) b 13 (.slice none 0 0) rfl) b 5 (.int .i64 x) rfl) b 11 (.int .i64 r.wait) rfl
  exact ⟨rfl, ⟨X, { V with v := nil3 }, s, T, H0.out.turn C ((((H0.out.cs.set 4 _).set 13 _).set 5 _).set 11 _) ⟨rfl, rfl⟩ (.inl ⟨rfl, rfl⟩) (.inr ⟨rfl, rfl⟩) (.inl ⟨rfl, rfl⟩) (.inl ⟨rfl, rfl⟩), HX.out, rfl⟩, C⟩
theorem Ob.hb {w : World} {base b : Nat} {r : Nd} {L : List Mg} {c : S3} (h : Ob w base b r L c) : base ≤ b ∧ b < w.heap.size := by
  obtain ⟨X, V, s, T, h0, _, _⟩ := h
  exact ⟨h0.hb, h0.cs.2.2⟩
theorem enter_o {w : World} {base b : Nat} {r : Nd} {L : List Mg} {c : S3} (t : Int) (h : Ob w base b r L c) :
    Calls Try.prog 31 #[.pointer (some ⟨b, 0, none⟩), .int .i64 t] w fun e w' => e = .returned (.tuple #[]) ∧ Ob w' base b (Rft.ent r t) L c ∧ Kp base w w' :=
  (enter_b t h).mono fun _ _ k => ⟨k.1, k.2.1, k.2.2.toKp h.hb.1⟩
theorem obey_o {w : World} {base b : Nat} {r : Nd} {L : List Mg} {c : S3} (x : Int) (h : Ob w base b r L c) :
    Calls Try.prog 55 #[.pointer (some ⟨b, 0, none⟩), .int .i64 x] w fun e w' => e = .returned (.tuple #[]) ∧ Ob w' base b (Rft.obey r x) L c ∧ Kp base w w' :=
  (obey_b x h).mono fun _ _ k => ⟨k.1, k.2.1, k.2.2.toKp h.hb.1⟩
/-- The log is another one, made just now. -/
theorem Oc.log {w w1 w2 : World} {base b : Nat} {r r' : Nd} {X : List (Mg × S3)} {V V' : Sv} {s u : S3} {T : Nat → Nat} (h : Oc w base b r X V s T) (g : w.grownBy w1 none) (hO : eE.Own w1 w.heap.size (.slice u.a u.n u.c) r'.l) (C : Chg (fun k => k = b) w1 w2) (hc : Cs w2 b (oc r' V' s))
    (h1 : r'.conf = r.conf ∧ V'.c = V.c) (h2 : V'.e = u) (h3 : (r'.votes = r.votes ∧ V'.v = V.v) ∨ (r'.votes = [] ∧ V'.v = nil3)) (h4 : (r'.next = r.next ∧ V'.n = V.n) ∨ (r'.next = [] ∧ V'.n = nil3)) (h5 : (r'.mat = r.mat ∧ V'.m = V.m) ∨ (r'.mat = [] ∧ V'.m = nil3)) : ∃ T', Oc w2 base b r' X V' s T' := by
  have O1 := (h.retag (tag_more T w.heap.size 1)).grown g
  have hbl := h.cs.2.2
  have hbb := h.hb
  have ne : ∀ i, i ≠ 0 → ∀ k, (fun k => if k < w.heap.size then T k else 1) k = i → base ≤ k → k < w1.heap.size → ¬ k = b := fun i hi k ht _ _ e => by subst e; exact hi (O1.tb.symm.trans ht).symm
  refine ⟨fun k => if k < w.heap.size then T k else 1, ?_⟩
  have eR : Row eE w1 base (fun k => if k < w.heap.size then T k else 1) 1 (.slice u.a u.n u.c) r'.l := .inl ⟨hO.low (by omega), fun k hk => if_neg (by have := (hO.lt k hk).1; omega)⟩
  have hcK := O1.c.kept C (ne 1 (by decide))
  have heK := eR.kept C (ne 1 (by decide))
  have hvK := O1.v.kept C (ne 2 (by decide))
  have hnK := O1.n.kept C (ne 3 (by decide))
  have hmK := O1.m.kept C (ne 4 (by decide))
  refine ⟨O1.hb, O1.tb, hc, by rw [h1.1, h1.2]; exact hcK, by rw [h2]; exact heK, ?_, ?_, ?_, ⟨O1.l.1.kept C (fun k hk e => ne 5 (by decide) k (O1.l.2 k hk) (O1.l.1.lt k hk).1 (O1.l.1.lt k hk).2 e), O1.l.2⟩, fun x hx => (O1.ms x hx).kept C (ne 1 (by decide))⟩
  · rcases h3 with ⟨e1, e2⟩ | ⟨e1, e2⟩ <;> rw [e1, e2]
    · exact hvK
    · exact Row.nil
  · rcases h4 with ⟨e1, e2⟩ | ⟨e1, e2⟩ <;> rw [e1, e2]
    · exact hnK
    · exact Row.nil
  · rcases h5 with ⟨e1, e2⟩ | ⟨e1, e2⟩ <;> rw [e1, e2]
    · exact hmK
    · exact Row.nil
def Rft.grown (r : Nd) (d : ByteArray) : Nd := match Rft.more r.b r.k r.l (r.term, d) with
  | some l => { r with l := l }
  | none => r
def Rft.grows (r : Nd) (d : ByteArray) : Bool := (Rft.more r.b r.k r.l (r.term, d)).isSome
set_option maxRecDepth 100000 in
set_option maxHeartbeats 3200000 in
theorem grow_o {w : World} {base b : Nat} {r : Nd} {L : List Mg} {c : S3} (d : ByteArray) (h : Ob w base b r L c) (hk : chk r.b r.k r.l = true) :
    Calls Try.prog 65 #[.pointer (some ⟨b, 0, none⟩), .string d] w fun e w' => e = .returned (.bool (Rft.grows r d)) ∧ Ob w' base b (Rft.grown r d) L c ∧ Kp base w w' := by
  obtain ⟨X, V, s, T, h0, hX, rfl⟩ := id h
  obtain ⟨p1, p2, p3, p4, p5, p6, p7⟩ := chk_parts hk
  have AP : Hid (∀ W, w.grownBy W none → _) := fun W g => Append_any r.b r.k _ r.l (r.term, d) W (Sl.row (h0.grown g).e) p5
  obtain ⟨c6, c7, c8⟩ := at_log h0
  have c2 := h0.cs.at_ 2 rfl
  have KS : Hid (∀ W, w.grownBy W none → w.grownBy W none ∧ w.heap.size ≤ W.heap.size ∧ W.cell? ⟨b, 6, none⟩ = some (.int .i64 r.b) ∧ W.cell? ⟨b, 7, none⟩ = some (.int .i64 r.k) ∧ W.cell? ⟨b, 8, none⟩ = some (.slice V.e.a V.e.n V.e.c) ∧ W.cell? ⟨b, 2, none⟩ = some (.int .i64 r.term)) := fun W g => ⟨g, g.size, g.cell c6 (by simp), g.cell c7 (by simp), g.cell c8 (by simp), g.cell c2 (by simp)⟩
  have YS : Hid (∀ {W : World}, ((w.alloc (.cells #[.int .i64 0, .int .i64 0, .slice none 0 0] 25)).drew).grownBy W none → Bo W w.heap.size 0 0 (.slice none 0 0) ∧ ∀ i, W.frozen? ⟨w.heap.size, i, none⟩ = false) := fun {W} g => ⟨box_kept (grown_tr (grown_drew (grown_refl _ _)) g), frozen_kept (grown_tr (grown_drew (grown_refl _ _)) g)⟩
  have H0 : Hid (Oc w base b r X V s T) := h0
  have HX : Hid (X.map (·.1) = L) := hX
  have EG : Hid (Rft.grown r d = match Rft.more r.b r.k r.l (r.term, d) with | some l => { r with l := l } | none => r) := rfl
  have ES : Hid (Rft.grows r d = (Rft.more r.b r.k r.l (r.term, d)).isSome) := rfl
  obtain ⟨R, hR⟩ : ∃ R, Rft.more r.b r.k r.l (r.term, d) = R := ⟨_, rfl⟩
  rw [hR] at AP EG ES
  clear h h0 hX hk p7 hR
  go_enter Try.func65, Try.ntmps65
  go_upto_region 1 with fail
  go_cut [5, 6] from 7 to 22 (fun t5 t6 wx => ∃ q2 B2 K2 a2 n2 c2 f2, t5 = .pointer (some ⟨q2, 0, none⟩) ∧ t6 = .bool f2 ∧ Hid (w.grownBy wx none ∧ Bo wx q2 B2 K2 (.slice a2 n2 c2) ∧ Rz wx w.heap.size r.b r.k R B2 K2 (.slice a2 n2 c2) f2))
  case first =>
    go_region_held3 (fun W => w.grownBy W none ∧ w.heap.size ≤ W.heap.size ∧ W.cell? ⟨b, 6, none⟩ = some (.int .i64 r.b) ∧ W.cell? ⟨b, 7, none⟩ = some (.int .i64 r.k) ∧ W.cell? ⟨b, 8, none⟩ = some (.slice V.e.a V.e.n V.e.c) ∧ W.cell? ⟨b, 2, none⟩ = some (.int .i64 r.term))
      (first | (refine KS.out _ ?_; first
        | (refine keep_store (And.left ‹_›) ?_; first | (exact Nat.le_refl _) | (exact And.left (And.right ‹_›)) | (simp; exact And.left (And.right ‹_›)))
        | (repeat (first | assumption | (with_reducible exact grown_refl _ _) | (with_reducible refine grown_drew ?_) | (with_reducible refine grown_alloc ?_ _) | (with_reducible exact And.left ‹_›)))))
      (first | (go_at_call 74; (with_reducible refine (AP.out _ (And.left ‹_›)).mono ?_); rintro e w4 ⟨B2, K2, a2, n2, c2, f2, rfl, hR2, g4⟩; have g5 : w.grownBy w4 none := grown_tr (And.left ‹_›) g4; try (have g6 := YS.out g4; obtain ⟨⟨y0, y1, y2⟩, yf⟩ := g6; have e0 := yf 0; have e1 := yf 1; have e2 := yf 2)))
    · go_wp2_with fail
      go_meet
      exact ⟨_, B2, K2, a2, n2, c2, f2, rfl, rfl, grown_alloc g5 _, box_kept (grown_refl _ _), (hR2.out.low (Nat.le_refl _)).grown (World.grownBy_alloc w4 _ none)⟩
    · go_wp2_with fail
      go_meet
      obtain ⟨j0, j1, j2, sg⟩ := put3 (a := .int .i64 B2) (b := .int .i64 K2) (c := .slice a2 n2 c2) y0 y1 y2
      have hb3 := hR2.out.lt
      exact ⟨_, B2, K2, a2, n2, c2, f2, rfl, rfl, keep_store g5 (Nat.le_refl _), ⟨j0, j1, j2⟩, (hR2.out.low (by simp)).but sg (fun k hk e => by have := (hb3 k hk).1; injection e with e; simp at this; omega)⟩
  case rest =>
    obtain ⟨q2, B2, K2, a2, n2, c2, f2, rfl, rfl, CF⟩ := hcut
    clear KS YS AP c6 c7 c8
    cases R with
    | none =>
      obtain ⟨rfl, rfl, _, rfl⟩ := CF.out.2.2
      go_wp2_with fail
      go_ret
      exact ⟨by rw [ES.out]; rfl, by rw [EG.out]; exact ⟨X, V, s, T, H0.out.grown CF.out.1, HX.out, rfl⟩, Kp.of CF.out.1⟩
    | some l =>
      obtain ⟨rfl, rfl, rfl, HA⟩ := CF.out.2.2
      have HA : Hid (eE.Own wc w.heap.size (.slice a2 n2 c2) l) := HA
      obtain ⟨d0, d1, d2⟩ := CF.out.2.1
      have O1 := H0.out.grown CF.out.1
      have GC : Hid (w.grownBy wc none) := CF.out.1
      obtain ⟨c6, c7, c8⟩ := at_log O1
      have f6 := O1.cs.2.1 6
      have f7 := O1.cs.2.1 7
      have f8 := O1.cs.2.1 8
      have OC : Hid (Cs wc b (oc r V s)) := O1.cs
      have HB : Hid (base ≤ b) := O1.hb
      clear O1 CF
      go_wp2_with fail
      go_ret
      have C := chg_setb (chg_setb (chg_setb (Chg.refl (fun k => k = b) wc) b 6 (.int .i64 r.b) rfl) b 7 (.int .i64 r.k) rfl) b 8 (.slice a2 n2 c2) rfl
      obtain ⟨T', O'⟩ := H0.out.log (r' := { r with l := l }) (V' := { V with e := ⟨a2, n2, c2⟩ }) (u := ⟨a2, n2, c2⟩) GC.out HA.out C (((OC.out.set 6 _).set 7 _).set 8 _) ⟨rfl, rfl⟩ rfl (.inl ⟨rfl, rfl⟩) (.inl ⟨rfl, rfl⟩) (.inl ⟨rfl, rfl⟩)
      exact ⟨by rw [ES.out]; rfl, by rw [EG.out]; exact ⟨X, _, s, T', O', HX.out, rfl⟩, (Kp.of GC.out).trans (C.toKp HB.out)⟩
end Go.Proofs.Ytdpcebaggldaiaa
