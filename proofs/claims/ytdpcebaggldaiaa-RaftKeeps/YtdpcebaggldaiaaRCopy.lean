/- The reference's Copy: a node in new memory. -/
import Derived.Test.YtdpcebaggldaiaaGCopy
namespace Go.Proofs.Ytdpcebaggldaiaa
open Go.RowKit Trl
open Rft (Nd Mg)
set_option linter.unusedVariables false
set_option maxRecDepth 10000

set_option maxRecDepth 100000 in
set_option maxHeartbeats 3200000 in
theorem Copy_any (r : Nd) (V : Sv) (w : World) (h : Rdn w r V) : Calls Try.prog 6 #[nv r V] w fun e w' => Cop w w' r e := by
  have cb := h.cb
  have eb := h.eb
  have vb := h.vb
  have nb := h.nb
  have mb := h.mb
  have K1 : Hid (∀ W, w.grownBy W none → eK.Own (W.alloc (.cells #[] 3)) W.heap.size (.slice (some ⟨W.heap.size, 0, none⟩) 0 0) [] ∧ eK.Rx (W.alloc (.cells #[] 3)) (.slice V.c.a V.c.n V.c.c) r.conf ∧ ∀ w3, (W.alloc (.cells #[] 3)).grownBy w3 (some W.heap.size) → W.grownBy w3 none) := fun W g => ⟨Elm.made (E := eK) W #[] 0 W.heap.size rfl (by decide) rfl, (h.c.grown (grown_alloc g _)), fun w3 g3 => grown_more (World.grownBy_alloc W _ none) g3 (fun k e => .inr (by injection e with e; omega))⟩
  have K2 : Hid (∀ W, w.grownBy W none → eK.Own (W.alloc (.cells #[] 3)) W.heap.size (.slice (some ⟨W.heap.size, 0, none⟩) 0 0) [] ∧ eK.Rx (W.alloc (.cells #[] 3)) (.slice V.v.a V.v.n V.v.c) r.votes ∧ ∀ w3, (W.alloc (.cells #[] 3)).grownBy w3 (some W.heap.size) → W.grownBy w3 none) := fun W g => ⟨Elm.made (E := eK) W #[] 0 W.heap.size rfl (by decide) rfl, (h.v.grown (grown_alloc g _)), fun w3 g3 => grown_more (World.grownBy_alloc W _ none) g3 (fun k e => .inr (by injection e with e; omega))⟩
  have K3 : Hid (∀ W, w.grownBy W none → eN.Own (W.alloc (.cells #[] 2)) W.heap.size (.slice (some ⟨W.heap.size, 0, none⟩) 0 0) [] ∧ eN.Rx (W.alloc (.cells #[] 2)) (.slice V.n.a V.n.n V.n.c) r.next ∧ ∀ w3, (W.alloc (.cells #[] 2)).grownBy w3 (some W.heap.size) → W.grownBy w3 none) := fun W g => ⟨Elm.made (E := eN) W #[] 0 W.heap.size rfl (by decide) rfl, (h.n.grown (grown_alloc g _)), fun w3 g3 => grown_more (World.grownBy_alloc W _ none) g3 (fun k e => .inr (by injection e with e; omega))⟩
  have K4 : Hid (∀ W, w.grownBy W none → eN.Own (W.alloc (.cells #[] 2)) W.heap.size (.slice (some ⟨W.heap.size, 0, none⟩) 0 0) [] ∧ eN.Rx (W.alloc (.cells #[] 2)) (.slice V.m.a V.m.n V.m.c) r.mat ∧ ∀ w3, (W.alloc (.cells #[] 2)).grownBy w3 (some W.heap.size) → W.grownBy w3 none) := fun W g => ⟨Elm.made (E := eN) W #[] 0 W.heap.size rfl (by decide) rfl, (h.m.grown (grown_alloc g _)), fun w3 g3 => grown_more (World.grownBy_alloc W _ none) g3 (fun k e => .inr (by injection e with e; omega))⟩
  have K5 : Hid (∀ W, w.grownBy W none → eE.Own (W.alloc (.cells #[] 34)) W.heap.size (.slice (some ⟨W.heap.size, 0, none⟩) 0 0) [] ∧ eE.Rx (W.alloc (.cells #[] 34)) (.slice V.e.a V.e.n V.e.c) r.l ∧ ∀ w3, (W.alloc (.cells #[] 34)).grownBy w3 (some W.heap.size) → W.grownBy w3 none) := fun W g => ⟨Elm.made (E := eE) W #[] 0 W.heap.size rfl (by decide) rfl, (h.e.grown (grown_alloc g _)).rx, fun w3 g3 => grown_more (World.grownBy_alloc W _ none) g3 (fun k e => .inr (by injection e with e; omega))⟩
  have BX : Hid (∀ {W : World}, ((w.alloc (.cells #[.int .i64 r.id, .slice V.c.a V.c.n V.c.c, .int .i64 r.term, .int .i64 r.vote, .int .i64 r.role, .int .i64 r.lead, .int .i64 r.b, .int .i64 r.k, .slice V.e.a V.e.n V.e.c, .string r.snap, .int .i64 r.com, .int .i64 r.left, .int .i64 r.wait, .slice V.v.a V.v.n V.v.c, .slice V.n.a V.n.n V.n.c, .slice V.m.a V.m.n V.m.c] 28)).alloc (.cells #[.int .i64 0, .slice none 0 0, .int .i64 0, .int .i64 0, .int .i64 0, .int .i64 0, .int .i64 0, .int .i64 0, .slice none 0 0, .string ⟨#[]⟩, .int .i64 0, .int .i64 0, .int .i64 0, .slice none 0 0, .slice none 0 0, .slice none 0 0] 28)).grownBy W none → Cs W w.heap.size (nc r V) ∧ Cs W (w.heap.size + 1) [.int .i64 0, .slice none 0 0, .int .i64 0, .int .i64 0, .int .i64 0, .int .i64 0, .int .i64 0, .int .i64 0, .slice none 0 0, .string ⟨#[]⟩, .int .i64 0, .int .i64 0, .int .i64 0, .slice none 0 0, .slice none 0 0, .slice none 0 0] ∧ w.grownBy W none) := fun {W} g => two_nodes g
  have B0 := BX.out (grown_refl _ none)
  have GS : Hid (∀ {W : World} (i : Nat) (v : Value), w.grownBy W none → w.grownBy (W.setCell ⟨w.heap.size, i, none⟩ v) none) := fun {W} i v g => grown_more g (grown_set W ⟨w.heap.size, i, none⟩ v) (fun k e => .inr (by injection e with e; simp at e; omega))
  have G0 : Hid (w.grownBy ((w.alloc (.cells #[.int .i64 r.id, .slice V.c.a V.c.n V.c.c, .int .i64 r.term, .int .i64 r.vote, .int .i64 r.role, .int .i64 r.lead, .int .i64 r.b, .int .i64 r.k, .slice V.e.a V.e.n V.e.c, .string r.snap, .int .i64 r.com, .int .i64 r.left, .int .i64 r.wait, .slice V.v.a V.v.n V.v.c, .slice V.n.a V.n.n V.n.c, .slice V.m.a V.m.n V.m.c] 28)).alloc (.cells #[.int .i64 0, .slice none 0 0, .int .i64 0, .int .i64 0, .int .i64 0, .int .i64 0, .int .i64 0, .int .i64 0, .slice none 0 0, .string ⟨#[]⟩, .int .i64 0, .int .i64 0, .int .i64 0, .slice none 0 0, .slice none 0 0, .slice none 0 0] 28)) none) := B0.2.2
  have HB0 : Hid (Cs ((w.alloc (.cells #[.int .i64 r.id, .slice V.c.a V.c.n V.c.c, .int .i64 r.term, .int .i64 r.vote, .int .i64 r.role, .int .i64 r.lead, .int .i64 r.b, .int .i64 r.k, .slice V.e.a V.e.n V.e.c, .string r.snap, .int .i64 r.com, .int .i64 r.left, .int .i64 r.wait, .slice V.v.a V.v.n V.v.c, .slice V.n.a V.n.n V.n.c, .slice V.m.a V.m.n V.m.c] 28)).alloc (.cells #[.int .i64 0, .slice none 0 0, .int .i64 0, .int .i64 0, .int .i64 0, .int .i64 0, .int .i64 0, .int .i64 0, .slice none 0 0, .string ⟨#[]⟩, .int .i64 0, .int .i64 0, .int .i64 0, .slice none 0 0, .slice none 0 0, .slice none 0 0] 28)) w.heap.size (nc r V)) := B0.1
  have HZ0 : Hid (Cs ((w.alloc (.cells #[.int .i64 r.id, .slice V.c.a V.c.n V.c.c, .int .i64 r.term, .int .i64 r.vote, .int .i64 r.role, .int .i64 r.lead, .int .i64 r.b, .int .i64 r.k, .slice V.e.a V.e.n V.e.c, .string r.snap, .int .i64 r.com, .int .i64 r.left, .int .i64 r.wait, .slice V.v.a V.v.n V.v.c, .slice V.n.a V.n.n V.n.c, .slice V.m.a V.m.n V.m.c] 28)).alloc (.cells #[.int .i64 0, .slice none 0 0, .int .i64 0, .int .i64 0, .int .i64 0, .int .i64 0, .int .i64 0, .int .i64 0, .slice none 0 0, .string ⟨#[]⟩, .int .i64 0, .int .i64 0, .int .i64 0, .slice none 0 0, .slice none 0 0, .slice none 0 0] 28)) (w.heap.size + 1) [.int .i64 0, .slice none 0 0, .int .i64 0, .int .i64 0, .int .i64 0, .int .i64 0, .int .i64 0, .int .i64 0, .slice none 0 0, .string ⟨#[]⟩, .int .i64 0, .int .i64 0, .int .i64 0, .slice none 0 0, .slice none 0 0, .slice none 0 0]) := B0.2.1
  have zs : ((w.alloc (.cells #[.int .i64 r.id, .slice V.c.a V.c.n V.c.c, .int .i64 r.term, .int .i64 r.vote, .int .i64 r.role, .int .i64 r.lead, .int .i64 r.b, .int .i64 r.k, .slice V.e.a V.e.n V.e.c, .string r.snap, .int .i64 r.com, .int .i64 r.left, .int .i64 r.wait, .slice V.v.a V.v.n V.v.c, .slice V.n.a V.n.n V.n.c, .slice V.m.a V.m.n V.m.c] 28)).alloc (.cells #[.int .i64 0, .slice none 0 0, .int .i64 0, .int .i64 0, .int .i64 0, .int .i64 0, .int .i64 0, .int .i64 0, .slice none 0 0, .string ⟨#[]⟩, .int .i64 0, .int .i64 0, .int .i64 0, .slice none 0 0, .slice none 0 0, .slice none 0 0] 28)).heap.size = w.heap.size + 2 := by simp
  have ZS : Hid (w.heap.size + 2 ≤ ((w.alloc (.cells #[.int .i64 r.id, .slice V.c.a V.c.n V.c.c, .int .i64 r.term, .int .i64 r.vote, .int .i64 r.role, .int .i64 r.lead, .int .i64 r.b, .int .i64 r.k, .slice V.e.a V.e.n V.e.c, .string r.snap, .int .i64 r.com, .int .i64 r.left, .int .i64 r.wait, .slice V.v.a V.v.n V.v.c, .slice V.n.a V.n.n V.n.c, .slice V.m.a V.m.n V.m.c] 28)).alloc (.cells #[.int .i64 0, .slice none 0 0, .int .i64 0, .int .i64 0, .int .i64 0, .int .i64 0, .int .i64 0, .int .i64 0, .slice none 0 0, .string ⟨#[]⟩, .int .i64 0, .int .i64 0, .int .i64 0, .slice none 0 0, .slice none 0 0, .slice none 0 0] 28)).heap.size) := by rw [zs]; exact Nat.le_refl _
  clear h B0 zs BX
  go_enter Try.func6, Try.ntmps6
  go_upto_region 1 with fail
  generalize (w.alloc (.cells #[.int .i64 r.id, .slice V.c.a V.c.n V.c.c, .int .i64 r.term, .int .i64 r.vote, .int .i64 r.role, .int .i64 r.lead, .int .i64 r.b, .int .i64 r.k, .slice V.e.a V.e.n V.e.c, .string r.snap, .int .i64 r.com, .int .i64 r.left, .int .i64 r.wait, .slice V.v.a V.v.n V.v.c, .slice V.n.a V.n.n V.n.c, .slice V.m.a V.m.n V.m.c] 28)).alloc (.cells #[.int .i64 0, .slice none 0 0, .int .i64 0, .int .i64 0, .int .i64 0, .int .i64 0, .int .i64 0, .int .i64 0, .slice none 0 0, .string ⟨#[]⟩, .int .i64 0, .int .i64 0, .int .i64 0, .slice none 0 0, .slice none 0 0, .slice none 0 0] 28) = w0 at *
  generalize hq : w.heap.size = q at *
  have u1 := HB0.out.at_ 1 rfl
  obtain ⟨A1, X1, F1⟩ := K1.out w0 G0.out
  have HF1 : Hid (∀ w3, (w0.alloc (.cells #[] 3)).grownBy w3 (some w0.heap.size) → w0.grownBy w3 none) := F1
  have qb1 : q < w0.heap.size := HB0.out.2.2
  clear F1
  go_upto_region 2 with (refine Elm.wpList_append (E := eK) rfl (.tmp 3) (.tmp 5) rfl w0.heap.size (.slice (some ⟨w0.heap.size, 0, none⟩) 0 0) [] rfl A1 (.slice V.c.a V.c.n V.c.c) r.conf rfl X1 (by simp; omega) (by simp [eK]; omega) (by simp) ?_; intro al1 nl1 cl1 w1 hO1 hg1 hl1; have g1 := HF1.out _ hg1; have b1 := HB0.out.grown g1; have y1 := b1.at_ 1 rfl; have f1 := b1.2.1 1)
  have o1 : eK.Own w1 w0.heap.size (.slice al1 nl1 cl1) r.conf := hO1
  have c1 := chg_setb (Chg.refl (fun k => k = q) w1) q 1 (.slice al1 nl1 cl1) rfl
  have gg1 := grown_set w1 ⟨q, 1, none⟩ (.slice al1 nl1 cl1)
  have ez1 := size_set w1 ⟨q, 1, none⟩ (.slice al1 nl1 cl1)
  have bb1 := b1.set 1 (.slice al1 nl1 cl1)
  have zz1 := (HZ0.out.grown g1).kept c1 (by omega)
  have GN1 := GS.out 1 (.slice al1 nl1 cl1) (grown_tr G0.out g1)
  have sz1 := g1.size
  have lt1 := o1.lt
  have on1 := o1.but gg1 (fun x hx e => by have := (lt1 x hx).1; have := ZS.out; have := HB0.out.2.2; injection e with e; simp at e; omega)
  generalize hv1 : w1.setCell ⟨q, 1, none⟩ (.slice al1 nl1 cl1) = v1 at *
  have G1 : Hid (w.grownBy v1 none) := GN1
  have HB1 : Hid (Cs v1 q _) := bb1
  have HZ1 : Hid (Cs v1 (q + 1) _) := zz1
  have U1 : Hid (∀ x, (Value.slice al1 nl1 cl1).ownBlock = some x → w0.heap.size ≤ x ∧ x < v1.heap.size) := fun x hx => by have := lt1 x hx; omega
  have SZ1 : Hid (w0.heap.size ≤ v1.heap.size) := by show _ ≤ _; omega
  have O1 : Hid (eK.Own v1 w0.heap.size (.slice al1 nl1 cl1) r.conf) := on1
  clear c1 gg1 ez1 bb1 zz1 GN1 sz1 lt1 on1 o1 hO1 g1 hg1 hl1 b1 y1 f1 hv1 K1 G0 HB0 HZ0 A1 X1 HF1 u1 qb1
  have u2 := HB1.out.at_ 13 rfl
  obtain ⟨A2, X2, F2⟩ := K2.out v1 G1.out
  have HF2 : Hid (∀ w3, (v1.alloc (.cells #[] 3)).grownBy w3 (some v1.heap.size) → v1.grownBy w3 none) := F2
  have qb2 : q < v1.heap.size := HB1.out.2.2
  clear F2
  go_upto_region 3 with (refine Elm.wpList_append (E := eK) rfl (.tmp 8) (.tmp 10) rfl v1.heap.size (.slice (some ⟨v1.heap.size, 0, none⟩) 0 0) [] rfl A2 (.slice V.v.a V.v.n V.v.c) r.votes rfl X2 (by simp; omega) (by simp [eK]; omega) (by simp) ?_; intro al2 nl2 cl2 w2 hO2 hg2 hl2; have g2 := HF2.out _ hg2; have b2 := HB1.out.grown g2; have y2 := b2.at_ 13 rfl; have f2 := b2.2.1 13)
  have o2 : eK.Own w2 v1.heap.size (.slice al2 nl2 cl2) r.votes := hO2
  have c2 := chg_setb (Chg.refl (fun k => k = q) w2) q 13 (.slice al2 nl2 cl2) rfl
  have gg2 := grown_set w2 ⟨q, 13, none⟩ (.slice al2 nl2 cl2)
  have ez2 := size_set w2 ⟨q, 13, none⟩ (.slice al2 nl2 cl2)
  have bb2 := b2.set 13 (.slice al2 nl2 cl2)
  have zz2 := (HZ1.out.grown g2).kept c2 (by omega)
  have GN2 := GS.out 13 (.slice al2 nl2 cl2) (grown_tr G1.out g2)
  have sz2 := g2.size
  have lt2 := o2.lt
  have oo1_2 := (O1.out.grown g2).but gg2 (fun x hx e => by have := (U1.out x hx).1; have := ZS.out; have := SZ1.out; injection e with e; simp at e; omega)
  have on2 := o2.but gg2 (fun x hx e => by have := (lt2 x hx).1; have := ZS.out; have := HB1.out.2.2; have := SZ1.out; injection e with e; simp at e; omega)
  generalize hv2 : w2.setCell ⟨q, 13, none⟩ (.slice al2 nl2 cl2) = v2 at *
  have G2 : Hid (w.grownBy v2 none) := GN2
  have HB2 : Hid (Cs v2 q _) := bb2
  have HZ2 : Hid (Cs v2 (q + 1) _) := zz2
  have U2 : Hid (∀ x, (Value.slice al2 nl2 cl2).ownBlock = some x → v1.heap.size ≤ x ∧ x < v2.heap.size) := fun x hx => by have := lt2 x hx; omega
  have SZ2 : Hid (v1.heap.size ≤ v2.heap.size) := by show _ ≤ _; omega
  have O2 : Hid (eK.Own v2 v1.heap.size (.slice al2 nl2 cl2) r.votes) := on2
  have O1 : Hid (eK.Own v2 w0.heap.size (.slice al1 nl1 cl1) r.conf) := oo1_2
  clear c2 gg2 ez2 bb2 zz2 GN2 sz2 lt2 on2 o2 hO2 g2 hg2 hl2 b2 y2 f2 hv2 K2 G1 HB1 HZ1 A2 X2 HF2 u2 qb2 oo1_2
  have u3 := HB2.out.at_ 14 rfl
  obtain ⟨A3, X3, F3⟩ := K3.out v2 G2.out
  have HF3 : Hid (∀ w3, (v2.alloc (.cells #[] 2)).grownBy w3 (some v2.heap.size) → v2.grownBy w3 none) := F3
  have qb3 : q < v2.heap.size := HB2.out.2.2
  clear F3
  go_upto_region 4 with (refine Elm.wpList_append (E := eN) rfl (.tmp 13) (.tmp 15) rfl v2.heap.size (.slice (some ⟨v2.heap.size, 0, none⟩) 0 0) [] rfl A3 (.slice V.n.a V.n.n V.n.c) r.next rfl X3 (by simp; omega) (by simp [eN]; omega) (by simp) ?_; intro al3 nl3 cl3 w3 hO3 hg3 hl3; have g3 := HF3.out _ hg3; have b3 := HB2.out.grown g3; have y3 := b3.at_ 14 rfl; have f3 := b3.2.1 14)
  have o3 : eN.Own w3 v2.heap.size (.slice al3 nl3 cl3) r.next := hO3
  have c3 := chg_setb (Chg.refl (fun k => k = q) w3) q 14 (.slice al3 nl3 cl3) rfl
  have gg3 := grown_set w3 ⟨q, 14, none⟩ (.slice al3 nl3 cl3)
  have ez3 := size_set w3 ⟨q, 14, none⟩ (.slice al3 nl3 cl3)
  have bb3 := b3.set 14 (.slice al3 nl3 cl3)
  have zz3 := (HZ2.out.grown g3).kept c3 (by omega)
  have GN3 := GS.out 14 (.slice al3 nl3 cl3) (grown_tr G2.out g3)
  have sz3 := g3.size
  have lt3 := o3.lt
  have oo1_3 := (O1.out.grown g3).but gg3 (fun x hx e => by have := (U1.out x hx).1; have := ZS.out; have := SZ1.out; have := SZ2.out; injection e with e; simp at e; omega)
  have oo2_3 := (O2.out.grown g3).but gg3 (fun x hx e => by have := (U2.out x hx).1; have := ZS.out; have := SZ1.out; have := SZ2.out; injection e with e; simp at e; omega)
  have on3 := o3.but gg3 (fun x hx e => by have := (lt3 x hx).1; have := ZS.out; have := HB2.out.2.2; have := SZ1.out; have := SZ2.out; injection e with e; simp at e; omega)
  generalize hv3 : w3.setCell ⟨q, 14, none⟩ (.slice al3 nl3 cl3) = v3 at *
  have G3 : Hid (w.grownBy v3 none) := GN3
  have HB3 : Hid (Cs v3 q _) := bb3
  have HZ3 : Hid (Cs v3 (q + 1) _) := zz3
  have U3 : Hid (∀ x, (Value.slice al3 nl3 cl3).ownBlock = some x → v2.heap.size ≤ x ∧ x < v3.heap.size) := fun x hx => by have := lt3 x hx; omega
  have SZ3 : Hid (v2.heap.size ≤ v3.heap.size) := by show _ ≤ _; omega
  have O3 : Hid (eN.Own v3 v2.heap.size (.slice al3 nl3 cl3) r.next) := on3
  have O1 : Hid (eK.Own v3 w0.heap.size (.slice al1 nl1 cl1) r.conf) := oo1_3
  have O2 : Hid (eK.Own v3 v1.heap.size (.slice al2 nl2 cl2) r.votes) := oo2_3
  clear c3 gg3 ez3 bb3 zz3 GN3 sz3 lt3 on3 o3 hO3 g3 hg3 hl3 b3 y3 f3 hv3 K3 G2 HB2 HZ2 A3 X3 HF3 u3 qb3 oo1_3 oo2_3
  have u4 := HB3.out.at_ 15 rfl
  obtain ⟨A4, X4, F4⟩ := K4.out v3 G3.out
  have HF4 : Hid (∀ w3, (v3.alloc (.cells #[] 2)).grownBy w3 (some v3.heap.size) → v3.grownBy w3 none) := F4
  have qb4 : q < v3.heap.size := HB3.out.2.2
  clear F4
  go_upto_region 5 with (refine Elm.wpList_append (E := eN) rfl (.tmp 18) (.tmp 20) rfl v3.heap.size (.slice (some ⟨v3.heap.size, 0, none⟩) 0 0) [] rfl A4 (.slice V.m.a V.m.n V.m.c) r.mat rfl X4 (by simp; omega) (by simp [eN]; omega) (by simp) ?_; intro al4 nl4 cl4 w4 hO4 hg4 hl4; have g4 := HF4.out _ hg4; have b4 := HB3.out.grown g4; have y4 := b4.at_ 15 rfl; have f4 := b4.2.1 15)
  have o4 : eN.Own w4 v3.heap.size (.slice al4 nl4 cl4) r.mat := hO4
  have c4 := chg_setb (Chg.refl (fun k => k = q) w4) q 15 (.slice al4 nl4 cl4) rfl
  have gg4 := grown_set w4 ⟨q, 15, none⟩ (.slice al4 nl4 cl4)
  have ez4 := size_set w4 ⟨q, 15, none⟩ (.slice al4 nl4 cl4)
  have bb4 := b4.set 15 (.slice al4 nl4 cl4)
  have zz4 := (HZ3.out.grown g4).kept c4 (by omega)
  have GN4 := GS.out 15 (.slice al4 nl4 cl4) (grown_tr G3.out g4)
  have sz4 := g4.size
  have lt4 := o4.lt
  have oo1_4 := (O1.out.grown g4).but gg4 (fun x hx e => by have := (U1.out x hx).1; have := ZS.out; have := SZ1.out; have := SZ2.out; have := SZ3.out; injection e with e; simp at e; omega)
  have oo2_4 := (O2.out.grown g4).but gg4 (fun x hx e => by have := (U2.out x hx).1; have := ZS.out; have := SZ1.out; have := SZ2.out; have := SZ3.out; injection e with e; simp at e; omega)
  have oo3_4 := (O3.out.grown g4).but gg4 (fun x hx e => by have := (U3.out x hx).1; have := ZS.out; have := SZ1.out; have := SZ2.out; have := SZ3.out; injection e with e; simp at e; omega)
  have on4 := o4.but gg4 (fun x hx e => by have := (lt4 x hx).1; have := ZS.out; have := HB3.out.2.2; have := SZ1.out; have := SZ2.out; have := SZ3.out; injection e with e; simp at e; omega)
  generalize hv4 : w4.setCell ⟨q, 15, none⟩ (.slice al4 nl4 cl4) = v4 at *
  have G4 : Hid (w.grownBy v4 none) := GN4
  have HB4 : Hid (Cs v4 q _) := bb4
  have HZ4 : Hid (Cs v4 (q + 1) _) := zz4
  have U4 : Hid (∀ x, (Value.slice al4 nl4 cl4).ownBlock = some x → v3.heap.size ≤ x ∧ x < v4.heap.size) := fun x hx => by have := lt4 x hx; omega
  have SZ4 : Hid (v3.heap.size ≤ v4.heap.size) := by show _ ≤ _; omega
  have O4 : Hid (eN.Own v4 v3.heap.size (.slice al4 nl4 cl4) r.mat) := on4
  have O1 : Hid (eK.Own v4 w0.heap.size (.slice al1 nl1 cl1) r.conf) := oo1_4
  have O2 : Hid (eK.Own v4 v1.heap.size (.slice al2 nl2 cl2) r.votes) := oo2_4
  have O3 : Hid (eN.Own v4 v2.heap.size (.slice al3 nl3 cl3) r.next) := oo3_4
  clear c4 gg4 ez4 bb4 zz4 GN4 sz4 lt4 on4 o4 hO4 g4 hg4 hl4 b4 y4 f4 hv4 K4 G3 HB3 HZ3 A4 X4 HF4 u4 qb4 oo1_4 oo2_4 oo3_4
  have u5 := HB4.out.at_ 8 rfl
  obtain ⟨A5, X5, F5⟩ := K5.out v4 G4.out
  have HF5 : Hid (∀ w3, (v4.alloc (.cells #[] 34)).grownBy w3 (some v4.heap.size) → v4.grownBy w3 none) := F5
  have qb5 : q < v4.heap.size := HB4.out.2.2
  clear F5
  go_upto_region 6 with (refine Elm.wpList_append (E := eE) rfl (.tmp 23) (.tmp 26) rfl v4.heap.size (.slice (some ⟨v4.heap.size, 0, none⟩) 0 0) [] rfl A5 (.slice V.e.a V.e.n V.e.c) r.l rfl X5 (by simp; omega) (by simp [eE]; omega) (by simp) ?_; intro al5 nl5 cl5 w5 hO5 hg5 hl5; have g5 := HF5.out _ hg5; have b5 := HB4.out.grown g5; have y5 := b5.at_ 8 rfl; have f5 := b5.2.1 8)
  have o5 : eE.Own w5 v4.heap.size (.slice al5 nl5 cl5) r.l := hO5
  have c5 := chg_setb (Chg.refl (fun k => k = q) w5) q 8 (.slice al5 nl5 cl5) rfl
  have gg5 := grown_set w5 ⟨q, 8, none⟩ (.slice al5 nl5 cl5)
  have ez5 := size_set w5 ⟨q, 8, none⟩ (.slice al5 nl5 cl5)
  have bb5 := b5.set 8 (.slice al5 nl5 cl5)
  have zz5 := (HZ4.out.grown g5).kept c5 (by omega)
  have GN5 := GS.out 8 (.slice al5 nl5 cl5) (grown_tr G4.out g5)
  have sz5 := g5.size
  have lt5 := o5.lt
  have oo1_5 := (O1.out.grown g5).but gg5 (fun x hx e => by have := (U1.out x hx).1; have := ZS.out; have := SZ1.out; have := SZ2.out; have := SZ3.out; have := SZ4.out; injection e with e; simp at e; omega)
  have oo2_5 := (O2.out.grown g5).but gg5 (fun x hx e => by have := (U2.out x hx).1; have := ZS.out; have := SZ1.out; have := SZ2.out; have := SZ3.out; have := SZ4.out; injection e with e; simp at e; omega)
  have oo3_5 := (O3.out.grown g5).but gg5 (fun x hx e => by have := (U3.out x hx).1; have := ZS.out; have := SZ1.out; have := SZ2.out; have := SZ3.out; have := SZ4.out; injection e with e; simp at e; omega)
  have oo4_5 := (O4.out.grown g5).but gg5 (fun x hx e => by have := (U4.out x hx).1; have := ZS.out; have := SZ1.out; have := SZ2.out; have := SZ3.out; have := SZ4.out; injection e with e; simp at e; omega)
  have on5 := o5.but gg5 (fun x hx e => by have := (lt5 x hx).1; have := ZS.out; have := HB4.out.2.2; have := SZ1.out; have := SZ2.out; have := SZ3.out; have := SZ4.out; injection e with e; simp at e; omega)
  generalize hv5 : w5.setCell ⟨q, 8, none⟩ (.slice al5 nl5 cl5) = v5 at *
  have G5 : Hid (w.grownBy v5 none) := GN5
  have HB5 : Hid (Cs v5 q _) := bb5
  have HZ5 : Hid (Cs v5 (q + 1) _) := zz5
  have U5 : Hid (∀ x, (Value.slice al5 nl5 cl5).ownBlock = some x → v4.heap.size ≤ x ∧ x < v5.heap.size) := fun x hx => by have := lt5 x hx; omega
  have SZ5 : Hid (v4.heap.size ≤ v5.heap.size) := by show _ ≤ _; omega
  have O5 : Hid (eE.Own v5 v4.heap.size (.slice al5 nl5 cl5) r.l) := on5
  have O1 : Hid (eK.Own v5 w0.heap.size (.slice al1 nl1 cl1) r.conf) := oo1_5
  have O2 : Hid (eK.Own v5 v1.heap.size (.slice al2 nl2 cl2) r.votes) := oo2_5
  have O3 : Hid (eN.Own v5 v2.heap.size (.slice al3 nl3 cl3) r.next) := oo3_5
  have O4 : Hid (eN.Own v5 v3.heap.size (.slice al4 nl4 cl4) r.mat) := oo4_5
  clear c5 gg5 ez5 bb5 zz5 GN5 sz5 lt5 on5 o5 hO5 g5 hg5 hl5 b5 y5 f5 hv5 K5 G4 HB4 HZ4 A5 X5 HF5 u5 qb5 oo1_5 oo2_5 oo3_5 oo4_5
  have RG : v5.rangeAt q 0 (nc r { c := ⟨al1, nl1, cl1⟩, e := ⟨al5, nl5, cl5⟩, v := ⟨al2, nl2, cl2⟩, n := ⟨al3, nl3, cl3⟩, m := ⟨al4, nl4, cl4⟩ }) := HB5.out.1
  have TH : v5.there (q + 1) 0 16 := HZ5.out.there (by decide)
  go_wp2_with (first
    | (refine load_row (ty := 28) q 0 (nc r { c := ⟨al1, nl1, cl1⟩, e := ⟨al5, nl5, cl5⟩, v := ⟨al2, nl2, cl2⟩, n := ⟨al3, nl3, cl3⟩, m := ⟨al4, nl4, cl4⟩ }) _ rfl RG Try.underlying28 rfl (by kernel_rfl) ?_)
    | (refine store_row (ty := 28) (q + 1) (nc r { c := ⟨al1, nl1, cl1⟩, e := ⟨al5, nl5, cl5⟩, v := ⟨al2, nl2, cl2⟩, n := ⟨al3, nl3, cl3⟩, m := ⟨al4, nl4, cl4⟩ }).toArray rfl rfl TH (by kernel_rfl) (by simp [Value.oneCell']) ?_; intro w6 hr6 ht6 hg6))
  refine bodyPost_ret (res_row1 Try.results6 rfl hr6 Try.underlying28 rfl (by kernel_rfl)) rfl ⟨{ c := ⟨al1, nl1, cl1⟩, e := ⟨al5, nl5, cl5⟩, v := ⟨al2, nl2, cl2⟩, n := ⟨al3, nl3, cl3⟩, m := ⟨al4, nl4, cl4⟩ }, fun k => if k < v1.heap.size then 1 else if k < v2.heap.size then 2 else if k < v3.heap.size then 3 else if k < v4.heap.size then 4 else 1, rfl, ?_, ?_⟩
  · have z1 := SZ1.out
    have z2 := SZ2.out
    have z3 := SZ3.out
    have z4 := SZ4.out
    have z5 := SZ5.out
    have zz := ZS.out
    refine ⟨.inl ⟨(O1.out.low (by omega)).but hg6 (fun x hx e => by have := (U1.out x hx).1; injection e with e; omega), fun x hx => ?_⟩, .inl ⟨(O5.out.low (by omega)).but hg6 (fun x hx e => by have := (U5.out x hx).1; injection e with e; omega), fun x hx => ?_⟩, .inl ⟨(O2.out.low (by omega)).but hg6 (fun x hx e => by have := (U2.out x hx).1; injection e with e; omega), fun x hx => ?_⟩, .inl ⟨(O3.out.low (by omega)).but hg6 (fun x hx e => by have := (U3.out x hx).1; injection e with e; omega), fun x hx => ?_⟩, .inl ⟨(O4.out.low (by omega)).but hg6 (fun x hx e => by have := (U4.out x hx).1; injection e with e; omega), fun x hx => ?_⟩⟩
    · have := U1.out x hx
      dsimp only
      rw [if_pos (by omega)]
    · have := U5.out x hx
      dsimp only
      rw [if_neg (by omega), if_neg (by omega), if_neg (by omega), if_neg (by omega)]
    · have := U2.out x hx
      dsimp only
      rw [if_neg (by omega), if_pos (by omega)]
    · have := U3.out x hx
      dsimp only
      rw [if_neg (by omega), if_neg (by omega), if_pos (by omega)]
    · have := U4.out x hx
      dsimp only
      rw [if_neg (by omega), if_neg (by omega), if_neg (by omega), if_pos (by omega)]
  · exact grown_more G5.out hg6 (fun k e => .inr (by injection e with e; omega))
end Go.Proofs.Ytdpcebaggldaiaa
