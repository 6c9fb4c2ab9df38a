/- The reference's Same and Messages: of like things. -/
import Derived.Test.YtdpcebaggldaiaaTRef
import Derived.Test.YtdpcebaggldaiaaMc
import Derived.Test.YtdpcebaggldaiaaGTakes
import Derived.Test.YtdpcebaggldaiaaGCopy
namespace Go.Proofs.Ytdpcebaggldaiaa
open Go.RowKit Trl
open Rft (Nd Mg)
set_option linter.unusedVariables false
set_option maxRecDepth 10000

set_option maxRecDepth 100000 in
set_option maxHeartbeats 1600000 in
theorem longs_same (ad aq : Option Addr) (n c cq : Nat) (l : List Int) (w : World) (h : eN.Rx w (.slice ad n c) l) (hu : eN.Rx w (.slice aq n cq) l) (hn : n = l.length) (hl : n ≤ 9223372036854775807) :
    Calls Try.prog 19 #[.slice ad n c, .slice aq n cq] w fun e w' => e = .returned (.bool true) ∧ w.grownBy w' none := by
  have NL : Hid (n = l.length) := hn
  have H : Hid (eN.Rx w (.slice ad n c) l) := h
  have HU : Hid (eN.Rx w (.slice aq n cq) l) := hu
  clear h hn hu
  go_enter Try.func19, Try.ntmps19
  go_wp2_with fail
  go_loopw [5] (fun i wr => ∃ (j : Nat), j ≤ n ∧ i = .int .i64 (j : Int) ∧ Hid (w.grownBy wr none)) (fun i _ => n - (intOf i).toNat)
  case atStart => exact ⟨0, by omega, rfl, grown_refl _ _⟩
  case round =>
    obtain ⟨j, hj, rfl, G⟩ := hrel
    by_cases hlt : j < n
    · obtain ⟨x, hx⟩ : ∃ y, l[j]? = some y := ⟨_, List.getElem?_eq_getElem (by rw [← NL.out]; exact hlt)⟩
      obtain ⟨g, o, rfl, x0⟩ := at_n (H.out.grown G.out) hx
      obtain ⟨g2, o2, rfl, y0⟩ := at_n (HU.out.grown G.out) hx
      clear hx
      go_wp2_with fail
      go_quiet (fail)
      go_wp2_with fail
      go_roundw
      case rel => exact ⟨j + 1, by omega, by go_num, grown_drewN G.out _⟩
      case measure => simp [intOf]; omega
    · go_wp2_with fail
      go_ret
      exact ⟨rfl, G.out⟩
theorem ints_like (ad aq : Option Addr) (n c cq : Nat) (l : List Int) (w : World) (h : eK.Rx w (.slice ad n c) l) (hu : eK.Rx w (.slice aq n cq) l) (hl : l.length ≤ 9223372036854775807) :
    Calls Try.prog 17 #[.slice ad n c, .slice aq n cq] w fun e w' => e = .returned (.bool true) ∧ w.grownBy w' none := by
  have e : sameL l l = true := by simp [sameL]
  have h1 := ints_any _ _ l l w h hl hu hl
  rw [e] at h1
  exact h1
theorem pair_nodes {w W : World} {r : Nd} {V V2 : Sv} (gr : ((w.alloc (.cells #[.int .i64 r.id, .slice V.c.a V.c.n V.c.c, .int .i64 r.term, .int .i64 r.vote, .int .i64 r.role, .int .i64 r.lead, .int .i64 r.b, .int .i64 r.k, .slice V.e.a V.e.n V.e.c, .string r.snap, .int .i64 r.com, .int .i64 r.left, .int .i64 r.wait, .slice V.v.a V.v.n V.v.c, .slice V.n.a V.n.n V.n.c, .slice V.m.a V.m.n V.m.c] 28)).alloc (.cells #[.int .i64 r.id, .slice V2.c.a V2.c.n V2.c.c, .int .i64 r.term, .int .i64 r.vote, .int .i64 r.role, .int .i64 r.lead, .int .i64 r.b, .int .i64 r.k, .slice V2.e.a V2.e.n V2.e.c, .string r.snap, .int .i64 r.com, .int .i64 r.left, .int .i64 r.wait, .slice V2.v.a V2.v.n V2.v.c, .slice V2.n.a V2.n.n V2.n.c, .slice V2.m.a V2.m.n V2.m.c] 28)).grownBy W none) : Cs W w.heap.size (nc r V) ∧ Cs W (w.heap.size + 1) (nc r V2) ∧ w.grownBy W none := by
  have g1 := World.grownBy_alloc (w.alloc (.cells #[.int .i64 r.id, .slice V.c.a V.c.n V.c.c, .int .i64 r.term, .int .i64 r.vote, .int .i64 r.role, .int .i64 r.lead, .int .i64 r.b, .int .i64 r.k, .slice V.e.a V.e.n V.e.c, .string r.snap, .int .i64 r.com, .int .i64 r.left, .int .i64 r.wait, .slice V.v.a V.v.n V.v.c, .slice V.n.a V.n.n V.n.c, .slice V.m.a V.m.n V.m.c] 28)) (.cells #[.int .i64 r.id, .slice V2.c.a V2.c.n V2.c.c, .int .i64 r.term, .int .i64 r.vote, .int .i64 r.role, .int .i64 r.lead, .int .i64 r.b, .int .i64 r.k, .slice V2.e.a V2.e.n V2.e.c, .string r.snap, .int .i64 r.com, .int .i64 r.left, .int .i64 r.wait, .slice V2.v.a V2.v.n V2.v.c, .slice V2.n.a V2.n.n V2.n.c, .slice V2.m.a V2.m.n V2.m.c] 28) none
  have e : (w.alloc (.cells #[.int .i64 r.id, .slice V.c.a V.c.n V.c.c, .int .i64 r.term, .int .i64 r.vote, .int .i64 r.role, .int .i64 r.lead, .int .i64 r.b, .int .i64 r.k, .slice V.e.a V.e.n V.e.c, .string r.snap, .int .i64 r.com, .int .i64 r.left, .int .i64 r.wait, .slice V.v.a V.v.n V.v.c, .slice V.n.a V.n.n V.n.c, .slice V.m.a V.m.n V.m.c] 28)).heap.size = w.heap.size + 1 := by simp
  have h2 := (box_node gr).1
  rw [e] at h2
  exact ⟨(box_node (grown_tr g1 gr)).1, h2, (box_node (grown_tr g1 gr)).2⟩
set_option maxRecDepth 100000 in
set_option maxHeartbeats 3200000 in
theorem Same_same (r : Nd) (V V2 : Sv) (w : World) (h : Rdn w r V) (h2 : Rdn w r V2) :
    Calls Try.prog 9 #[nv r V, nv r V2] w fun e w' => e = .returned (.bool true) ∧ w.grownBy w' none := by
  have cb := h.cb
  have vb := h.vb
  have nb := h.nb
  have mb := h.mb
  have e1 : V2.c.n = V.c.n := h2.cl.trans h.cl.symm
  have e2 : V2.v.n = V.v.n := h2.vl.trans h.vl.symm
  have e3 : V2.n.n = V.n.n := h2.nl.trans h.nl.symm
  have e4 : V2.m.n = V.m.n := h2.ml.trans h.ml.symm
  have IC : Hid (∀ W, w.grownBy W none → Calls Try.prog 17 #[.slice V.c.a V.c.n V.c.c, .slice V2.c.a V2.c.n V2.c.c] W fun e w' => e = .returned (.bool true) ∧ W.grownBy w' none) := fun W g => by
    rw [e1]; exact ints_like _ _ _ _ _ r.conf W (h.c.grown g) (by rw [← e1]; exact h2.c.grown g) (by omega)
  have IV : Hid (∀ W, w.grownBy W none → Calls Try.prog 17 #[.slice V.v.a V.v.n V.v.c, .slice V2.v.a V2.v.n V2.v.c] W fun e w' => e = .returned (.bool true) ∧ W.grownBy w' none) := fun W g => by
    rw [e2]; exact ints_like _ _ _ _ _ r.votes W (h.v.grown g) (by rw [← e2]; exact h2.v.grown g) (by omega)
  have LN : Hid (∀ W, w.grownBy W none → Calls Try.prog 19 #[.slice V.n.a V.n.n V.n.c, .slice V2.n.a V2.n.n V2.n.c] W fun e w' => e = .returned (.bool true) ∧ W.grownBy w' none) := fun W g => by
    rw [e3]; exact longs_same _ _ _ _ _ r.next W (h.n.grown g) (by rw [← e3]; exact h2.n.grown g) h.nl (by rw [h.nl]; omega)
  have LM : Hid (∀ W, w.grownBy W none → Calls Try.prog 19 #[.slice V.m.a V.m.n V.m.c, .slice V2.m.a V2.m.n V2.m.c] W fun e w' => e = .returned (.bool true) ∧ W.grownBy w' none) := fun W g => by
    rw [e4]; exact longs_same _ _ _ _ _ r.mat W (h.m.grown g) (by rw [← e4]; exact h2.m.grown g) h.ml (by rw [h.ml]; omega)
  have ST : Hid (∀ W, w.grownBy W none → Calls Try.prog 18 #[tv r.b r.k (.slice V.e.a V.e.n V.e.c), tv r.b r.k (.slice V2.e.a V2.e.n V2.e.c)] W fun e w' => e = .returned (.bool true) ∧ W.grownBy w' none) := fun W g => same_same r.b r.k _ _ r.l W (h.e.grown g) (h2.e.grown g)
  have BX : Hid (∀ {W : World}, ((w.alloc (.cells #[.int .i64 r.id, .slice V.c.a V.c.n V.c.c, .int .i64 r.term, .int .i64 r.vote, .int .i64 r.role, .int .i64 r.lead, .int .i64 r.b, .int .i64 r.k, .slice V.e.a V.e.n V.e.c, .string r.snap, .int .i64 r.com, .int .i64 r.left, .int .i64 r.wait, .slice V.v.a V.v.n V.v.c, .slice V.n.a V.n.n V.n.c, .slice V.m.a V.m.n V.m.c] 28)).alloc (.cells #[.int .i64 r.id, .slice V2.c.a V2.c.n V2.c.c, .int .i64 r.term, .int .i64 r.vote, .int .i64 r.role, .int .i64 r.lead, .int .i64 r.b, .int .i64 r.k, .slice V2.e.a V2.e.n V2.e.c, .string r.snap, .int .i64 r.com, .int .i64 r.left, .int .i64 r.wait, .slice V2.v.a V2.v.n V2.v.c, .slice V2.n.a V2.n.n V2.n.c, .slice V2.m.a V2.m.n V2.m.c] 28)).grownBy W none → Cs W w.heap.size (nc r V) ∧ Cs W (w.heap.size + 1) (nc r V2) ∧ w.grownBy W none) := fun {W} gr => pair_nodes gr
  have FX : Hid (∀ {W : World}, ((w.alloc (.cells #[.int .i64 r.id, .slice V.c.a V.c.n V.c.c, .int .i64 r.term, .int .i64 r.vote, .int .i64 r.role, .int .i64 r.lead, .int .i64 r.b, .int .i64 r.k, .slice V.e.a V.e.n V.e.c, .string r.snap, .int .i64 r.com, .int .i64 r.left, .int .i64 r.wait, .slice V.v.a V.v.n V.v.c, .slice V.n.a V.n.n V.n.c, .slice V.m.a V.m.n V.m.c] 28)).alloc (.cells #[.int .i64 r.id, .slice V2.c.a V2.c.n V2.c.c, .int .i64 r.term, .int .i64 r.vote, .int .i64 r.role, .int .i64 r.lead, .int .i64 r.b, .int .i64 r.k, .slice V2.e.a V2.e.n V2.e.c, .string r.snap, .int .i64 r.com, .int .i64 r.left, .int .i64 r.wait, .slice V2.v.a V2.v.n V2.v.c, .slice V2.n.a V2.n.n V2.n.c, .slice V2.m.a V2.m.n V2.m.c] 28)).grownBy W none → W.cell? ⟨w.heap.size, 0, none⟩ = some (.int .i64 r.id) ∧ W.cell? ⟨w.heap.size, 1, none⟩ = some (.slice V.c.a V.c.n V.c.c) ∧ W.cell? ⟨w.heap.size, 2, none⟩ = some (.int .i64 r.term) ∧ W.cell? ⟨w.heap.size, 3, none⟩ = some (.int .i64 r.vote) ∧ W.cell? ⟨w.heap.size, 4, none⟩ = some (.int .i64 r.role) ∧ W.cell? ⟨w.heap.size, 5, none⟩ = some (.int .i64 r.lead) ∧ W.cell? ⟨w.heap.size, 6, none⟩ = some (.int .i64 r.b) ∧ W.cell? ⟨w.heap.size, 7, none⟩ = some (.int .i64 r.k) ∧ W.cell? ⟨w.heap.size, 8, none⟩ = some (.slice V.e.a V.e.n V.e.c) ∧ W.cell? ⟨w.heap.size, 9, none⟩ = some (.string r.snap) ∧ W.cell? ⟨w.heap.size, 10, none⟩ = some (.int .i64 r.com) ∧ W.cell? ⟨w.heap.size, 11, none⟩ = some (.int .i64 r.left) ∧ W.cell? ⟨w.heap.size, 12, none⟩ = some (.int .i64 r.wait) ∧ W.cell? ⟨w.heap.size, 13, none⟩ = some (.slice V.v.a V.v.n V.v.c) ∧ W.cell? ⟨w.heap.size, 14, none⟩ = some (.slice V.n.a V.n.n V.n.c) ∧ W.cell? ⟨w.heap.size, 15, none⟩ = some (.slice V.m.a V.m.n V.m.c) ∧ W.cell? ⟨w.heap.size + 1, 0, none⟩ = some (.int .i64 r.id) ∧ W.cell? ⟨w.heap.size + 1, 1, none⟩ = some (.slice V2.c.a V2.c.n V2.c.c) ∧ W.cell? ⟨w.heap.size + 1, 2, none⟩ = some (.int .i64 r.term) ∧ W.cell? ⟨w.heap.size + 1, 3, none⟩ = some (.int .i64 r.vote) ∧ W.cell? ⟨w.heap.size + 1, 4, none⟩ = some (.int .i64 r.role) ∧ W.cell? ⟨w.heap.size + 1, 5, none⟩ = some (.int .i64 r.lead) ∧ W.cell? ⟨w.heap.size + 1, 6, none⟩ = some (.int .i64 r.b) ∧ W.cell? ⟨w.heap.size + 1, 7, none⟩ = some (.int .i64 r.k) ∧ W.cell? ⟨w.heap.size + 1, 8, none⟩ = some (.slice V2.e.a V2.e.n V2.e.c) ∧ W.cell? ⟨w.heap.size + 1, 9, none⟩ = some (.string r.snap) ∧ W.cell? ⟨w.heap.size + 1, 10, none⟩ = some (.int .i64 r.com) ∧ W.cell? ⟨w.heap.size + 1, 11, none⟩ = some (.int .i64 r.left) ∧ W.cell? ⟨w.heap.size + 1, 12, none⟩ = some (.int .i64 r.wait) ∧ W.cell? ⟨w.heap.size + 1, 13, none⟩ = some (.slice V2.v.a V2.v.n V2.v.c) ∧ W.cell? ⟨w.heap.size + 1, 14, none⟩ = some (.slice V2.n.a V2.n.n V2.n.c) ∧ W.cell? ⟨w.heap.size + 1, 15, none⟩ = some (.slice V2.m.a V2.m.n V2.m.c) ∧ w.grownBy W none) := fun {W} gr => by
    obtain ⟨a, b, c⟩ := BX.out gr
    exact ⟨a.at_ 0 rfl, a.at_ 1 rfl, a.at_ 2 rfl, a.at_ 3 rfl, a.at_ 4 rfl, a.at_ 5 rfl, a.at_ 6 rfl, a.at_ 7 rfl, a.at_ 8 rfl, a.at_ 9 rfl, a.at_ 10 rfl, a.at_ 11 rfl, a.at_ 12 rfl, a.at_ 13 rfl, a.at_ 14 rfl, a.at_ 15 rfl, b.at_ 0 rfl, b.at_ 1 rfl, b.at_ 2 rfl, b.at_ 3 rfl, b.at_ 4 rfl, b.at_ 5 rfl, b.at_ 6 rfl, b.at_ 7 rfl, b.at_ 8 rfl, b.at_ 9 rfl, b.at_ 10 rfl, b.at_ 11 rfl, b.at_ 12 rfl, b.at_ 13 rfl, b.at_ 14 rfl, b.at_ 15 rfl, c⟩
  obtain ⟨x0, x1, x2, x3, x4, x5, x6, x7, x8, x9, x10, x11, x12, x13, x14, x15, y0, y1, y2, y3, y4, y5, y6, y7, y8, y9, y10, y11, y12, y13, y14, y15, GW0⟩ := FX.out (grown_refl _ none)
  have eS : (w.alloc (.cells #[.int .i64 r.id, .slice V.c.a V.c.n V.c.c, .int .i64 r.term, .int .i64 r.vote, .int .i64 r.role, .int .i64 r.lead, .int .i64 r.b, .int .i64 r.k, .slice V.e.a V.e.n V.e.c, .string r.snap, .int .i64 r.com, .int .i64 r.left, .int .i64 r.wait, .slice V.v.a V.v.n V.v.c, .slice V.n.a V.n.n V.n.c, .slice V.m.a V.m.n V.m.c] 28)).heap.size = w.heap.size + 1 := by simp
  clear h h2 cb vb nb mb e1 e2 e3 e4 BX eS
  go_enter Try.func9, Try.ntmps9
  go_upto_region 1 with fail
  generalize (w.alloc (.cells #[.int .i64 r.id, .slice V.c.a V.c.n V.c.c, .int .i64 r.term, .int .i64 r.vote, .int .i64 r.role, .int .i64 r.lead, .int .i64 r.b, .int .i64 r.k, .slice V.e.a V.e.n V.e.c, .string r.snap, .int .i64 r.com, .int .i64 r.left, .int .i64 r.wait, .slice V.v.a V.v.n V.v.c, .slice V.n.a V.n.n V.n.c, .slice V.m.a V.m.n V.m.c] 28)).alloc (.cells #[.int .i64 r.id, .slice V2.c.a V2.c.n V2.c.c, .int .i64 r.term, .int .i64 r.vote, .int .i64 r.role, .int .i64 r.lead, .int .i64 r.b, .int .i64 r.k, .slice V2.e.a V2.e.n V2.e.c, .string r.snap, .int .i64 r.com, .int .i64 r.left, .int .i64 r.wait, .slice V2.v.a V2.v.n V2.v.c, .slice V2.n.a V2.n.n V2.n.c, .slice V2.m.a V2.m.n V2.m.c] 28) = w0 at *
  go_wp2_with (first
    | (go_at_call 17; (with_reducible refine (IC.out _ GW0).mono ?_); rintro e w1 ⟨rfl, g1⟩; obtain ⟨a0, a1, a2, a3, a4, a5, a6, a7, a8, a9, a10, a11, a12, a13, a14, a15, b0, b1, b2, b3, b4, b5, b6, b7, b8, b9, b10, b11, b12, b13, b14, b15, GW1⟩ := FX.out g1; clear x1 y1)
    | (go_at_call 18; (with_reducible refine (ST.out _ GW1).mono ?_); rintro e w2 ⟨rfl, g2⟩; have h2 := grown_tr g1 g2; obtain ⟨c0, c1, c2, c3, c4, c5, c6, c7, c8, c9, c10, c11, c12, c13, c14, c15, d0, d1, d2, d3, d4, d5, d6, d7, d8, d9, d10, d11, d12, d13, d14, d15, GW2⟩ := FX.out h2)
    | (go_at_call 17; (with_reducible refine (IV.out _ GW2).mono ?_); rintro e w3 ⟨rfl, g3⟩; have h3 := grown_tr h2 g3; obtain ⟨e0, e1, e2, e3, e4, e5, e6, e7, e8, e9, e10, e11, e12, e13, e14, e15, f0, f1, f2, f3, f4, f5, f6, f7, f8, f9, f10, f11, f12, f13, f14, f15, GW3⟩ := FX.out h3)
    | (go_at_call 19; (with_reducible refine (LN.out _ GW3).mono ?_); rintro e w4 ⟨rfl, g4⟩; have h4 := grown_tr h3 g4; obtain ⟨k0, k1, k2, k3, k4, k5, k6, k7, k8, k9, k10, k11, k12, k13, k14, k15, l0, l1, l2, l3, l4, l5, l6, l7, l8, l9, l10, l11, l12, l13, l14, l15, GW4⟩ := FX.out h4)
    | (go_at_call 19; (with_reducible refine (LM.out _ GW4).mono ?_); rintro e w5 ⟨rfl, g5⟩; have h5 := grown_tr h4 g5; obtain ⟨m0, m1, m2, m3, m4, m5, m6, m7, m8, m9, m10, m11, m12, m13, m14, m15, n0, n1, n2, n3, n4, n5, n6, n7, n8, n9, n10, n11, n12, n13, n14, n15, GW5⟩ := FX.out h5))
  go_ret
  exact ⟨rfl, GW5⟩
set_option maxRecDepth 100000 in
set_option maxHeartbeats 1600000 in
theorem message_same (g : Mg) (u u2 : S3) (w : World) (h : Rdm w g u) (h2 : Rdm w g u2) :
    Calls Try.prog 20 #[mv g u, mv g u2] w fun e w' => e = .returned (.bool true) ∧ w.grownBy w' none := by
  have EN : Hid (∀ W, w.grownBy W none → _) := fun W gr => entries_same (.slice u.a u.n u.c) (.slice u2.a u2.n u2.c) g.es W (h.e.grown gr) (h2.e.grown gr)
  have FX : Hid (∀ {W : World}, ((w.alloc (.cells #[.int .i64 g.kind, .int .i64 g.fm, .int .i64 g.tt, .int .i64 g.term, .int .i64 g.index, .int .i64 g.logt, .int .i64 g.com, .bool g.yes, .slice u.a u.n u.c, .string g.data] 30)).alloc (.cells #[.int .i64 g.kind, .int .i64 g.fm, .int .i64 g.tt, .int .i64 g.term, .int .i64 g.index, .int .i64 g.logt, .int .i64 g.com, .bool g.yes, .slice u2.a u2.n u2.c, .string g.data] 30)).grownBy W none → W.cell? ⟨w.heap.size, 0, none⟩ = some (.int .i64 g.kind) ∧ W.cell? ⟨w.heap.size, 1, none⟩ = some (.int .i64 g.fm) ∧ W.cell? ⟨w.heap.size, 2, none⟩ = some (.int .i64 g.tt) ∧ W.cell? ⟨w.heap.size, 3, none⟩ = some (.int .i64 g.term) ∧ W.cell? ⟨w.heap.size, 4, none⟩ = some (.int .i64 g.index) ∧ W.cell? ⟨w.heap.size, 5, none⟩ = some (.int .i64 g.logt) ∧ W.cell? ⟨w.heap.size, 6, none⟩ = some (.int .i64 g.com) ∧ W.cell? ⟨w.heap.size, 7, none⟩ = some (.bool g.yes) ∧ W.cell? ⟨w.heap.size, 8, none⟩ = some (.slice u.a u.n u.c) ∧ W.cell? ⟨w.heap.size, 9, none⟩ = some (.string g.data) ∧ W.cell? ⟨w.heap.size + 1, 0, none⟩ = some (.int .i64 g.kind) ∧ W.cell? ⟨w.heap.size + 1, 1, none⟩ = some (.int .i64 g.fm) ∧ W.cell? ⟨w.heap.size + 1, 2, none⟩ = some (.int .i64 g.tt) ∧ W.cell? ⟨w.heap.size + 1, 3, none⟩ = some (.int .i64 g.term) ∧ W.cell? ⟨w.heap.size + 1, 4, none⟩ = some (.int .i64 g.index) ∧ W.cell? ⟨w.heap.size + 1, 5, none⟩ = some (.int .i64 g.logt) ∧ W.cell? ⟨w.heap.size + 1, 6, none⟩ = some (.int .i64 g.com) ∧ W.cell? ⟨w.heap.size + 1, 7, none⟩ = some (.bool g.yes) ∧ W.cell? ⟨w.heap.size + 1, 8, none⟩ = some (.slice u2.a u2.n u2.c) ∧ W.cell? ⟨w.heap.size + 1, 9, none⟩ = some (.string g.data) ∧ w.grownBy W none) := fun {W} gr => by
    have g1 := World.grownBy_alloc (w.alloc (.cells #[.int .i64 g.kind, .int .i64 g.fm, .int .i64 g.tt, .int .i64 g.term, .int .i64 g.index, .int .i64 g.logt, .int .i64 g.com, .bool g.yes, .slice u.a u.n u.c, .string g.data] 30)) (.cells #[.int .i64 g.kind, .int .i64 g.fm, .int .i64 g.tt, .int .i64 g.term, .int .i64 g.index, .int .i64 g.logt, .int .i64 g.com, .bool g.yes, .slice u2.a u2.n u2.c, .string g.data] 30) none
    have e : (w.alloc (.cells #[.int .i64 g.kind, .int .i64 g.fm, .int .i64 g.tt, .int .i64 g.term, .int .i64 g.index, .int .i64 g.logt, .int .i64 g.com, .bool g.yes, .slice u.a u.n u.c, .string g.data] 30)).heap.size = w.heap.size + 1 := by simp
    have a := box_msg (x := (g, u)) (grown_tr g1 gr)
    have b := box_msg (x := (g, u2)) gr
    rw [e] at b
    exact ⟨a.at_ 0 rfl, a.at_ 1 rfl, a.at_ 2 rfl, a.at_ 3 rfl, a.at_ 4 rfl, a.at_ 5 rfl, a.at_ 6 rfl, a.at_ 7 rfl, a.at_ 8 rfl, a.at_ 9 rfl, b.at_ 0 rfl, b.at_ 1 rfl, b.at_ 2 rfl, b.at_ 3 rfl, b.at_ 4 rfl, b.at_ 5 rfl, b.at_ 6 rfl, b.at_ 7 rfl, b.at_ 8 rfl, b.at_ 9 rfl, grown_tr (World.grownBy_alloc w _ none) (grown_tr g1 gr)⟩
  obtain ⟨x0, x1, x2, x3, x4, x5, x6, x7, x8, x9, y0, y1, y2, y3, y4, y5, y6, y7, y8, y9, GW0⟩ := FX.out (grown_refl _ none)
  clear h h2
  go_enter Try.func20, Try.ntmps20
  go_upto_region 1 with fail
  generalize (w.alloc (.cells #[.int .i64 g.kind, .int .i64 g.fm, .int .i64 g.tt, .int .i64 g.term, .int .i64 g.index, .int .i64 g.logt, .int .i64 g.com, .bool g.yes, .slice u.a u.n u.c, .string g.data] 30)).alloc (.cells #[.int .i64 g.kind, .int .i64 g.fm, .int .i64 g.tt, .int .i64 g.term, .int .i64 g.index, .int .i64 g.logt, .int .i64 g.com, .bool g.yes, .slice u2.a u2.n u2.c, .string g.data] 30) = w0 at *
  go_wp2_with (first
    | (go_at_call 40; (with_reducible refine (EN.out _ GW0).mono ?_); rintro e w1 ⟨rfl, g1⟩; obtain ⟨a0, a1, a2, a3, a4, a5, a6, a7, a8, a9, b0, b1, b2, b3, b4, b5, b6, b7, b8, b9, GW1⟩ := FX.out g1))
  go_ret
  exact ⟨rfl, GW1⟩
set_option maxRecDepth 100000 in
set_option maxHeartbeats 1600000 in
theorem messages_same (s s2 : S3) (X X2 : List (Mg × S3)) (w : World) (h : eM.Rx w (.slice s.a s.n s.c) X) (h2 : eM.Rx w (.slice s2.a s2.n s2.c) X2) (hm : ∀ x ∈ X, Rdm w x.1 x.2) (hm2 : ∀ x ∈ X2, Rdm w x.1 x.2) (he : X.map (·.1) = X2.map (·.1)) (hs : s.n = X.length) (hs2 : s2.n = X2.length) (hl : s.n ≤ 9223372036854775807) :
    Calls Try.prog 10 #[.slice s.a s.n s.c, .slice s2.a s2.n s2.c] w fun e w' => e = .returned (.bool true) ∧ w.grownBy w' none := by
  have hll : X.length = X2.length := by have := congrArg List.length he; simpa using this
  have hn2 : s2.n = s.n := by omega
  rw [hn2] at h2 ⊢
  have ME : Hid (∀ (W : World) (j : Nat), w.grownBy W none → j < s.n → ∃ g gg o u gg2 o2 u2, s.a = some ⟨gg, o, none⟩ ∧ s2.a = some ⟨gg2, o2, none⟩ ∧ W.rangeAt gg (o + j * 10) (mc (g, u)) ∧ W.rangeAt gg2 (o2 + j * 10) (mc (g, u2)) ∧ ∀ W', w.grownBy W' none → Calls Try.prog 20 #[mv g u, mv g u2] W' fun e w' => e = .returned (.bool true) ∧ W'.grownBy w' none) := fun W j gr hj => by
    obtain ⟨x, hx⟩ : ∃ y, X[j]? = some y := ⟨_, List.getElem?_eq_getElem (by omega)⟩
    obtain ⟨y, hy⟩ : ∃ y, X2[j]? = some y := ⟨_, List.getElem?_eq_getElem (by omega)⟩
    have exy : x.1 = y.1 := by
      have h1 : (X.map (·.1))[j]? = some x.1 := by simp [hx]
      rw [he] at h1
      have h2 : (X2.map (·.1))[j]? = some y.1 := by simp [hy]
      rw [h1] at h2
      injection h2
    obtain ⟨g1, o1, c1, hv1, hc1⟩ := (h.grown gr).at_ hx
    obtain ⟨g2, o2, c2, hv2, hc2⟩ := (h2.grown gr).at_ hy
    injection hv1 with a1 _ _
    injection hv2 with a2 _ _
    refine ⟨x.1, g1, o1, x.2, g2, o2, y.2, a1, a2, fun i v hi => hc1 i v hi, fun i v hi => ?_, fun W' g' => message_same x.1 x.2 y.2 W' ((hm x (List.mem_of_getElem? hx)).grown g') (by rw [exy]; exact (hm2 y (List.mem_of_getElem? hy)).grown g')⟩
    rw [exy] at hi
    exact hc2 i v hi
  clear h h2 hm hm2 he hs hs2 hll hn2
  go_enter Try.func10, Try.ntmps10
  go_wp2_with fail
  go_loopw [5] (fun i wr => ∃ (j : Nat), j ≤ s.n ∧ i = .int .i64 (j : Int) ∧ Hid (w.grownBy wr none)) (fun i _ => s.n - (intOf i).toNat)
  case atStart => exact ⟨0, by omega, rfl, grown_refl _ _⟩
  case round =>
    obtain ⟨j, hj, rfl, G⟩ := hrel
    by_cases hlt : j < s.n
    · obtain ⟨g, gg, o, u, gg2, o2, u2, a1, a2, R1, R2, M1⟩ := ME.out wr j G.out hlt
      rw [a1, a2]
      have M2 := M1 wr.drew (grown_drew G.out)
      have x0 := fun i v (hi : (mc (g, u))[i]? = some v) => R1 i v hi
      have p0 := R1 0 _ rfl
      have p1 := R1 1 _ rfl
      have p2 := R1 2 _ rfl
      have p3 := R1 3 _ rfl
      have p4 := R1 4 _ rfl
      have p5 := R1 5 _ rfl
      have p6 := R1 6 _ rfl
      have p7 := R1 7 _ rfl
      have p8 := R1 8 _ rfl
      have p9 := R1 9 _ rfl
      have q0 := R2 0 _ rfl
      have q1 := R2 1 _ rfl
      have q2 := R2 2 _ rfl
      have q3 := R2 3 _ rfl
      have q4 := R2 4 _ rfl
      have q5 := R2 5 _ rfl
      have q6 := R2 6 _ rfl
      have q7 := R2 7 _ rfl
      have q8 := R2 8 _ rfl
      have q9 := R2 9 _ rfl
      simp only [Nat.add_zero] at p0 q0
      clear x0 R1 R2 M1 a1 a2
      go_upto_region 6 with fail
      refine region_tail 8 (by kernel_rfl) (by kernel_rfl) ?_
      simp only [List.take_succ_cons, List.take_zero, List.drop_succ_cons, List.drop_zero]
      iterate 8 still_step
      refine wpStill_nil ?_
      go_wp2_with (go_at_call 20; (with_reducible refine M2.mono ?_); rintro e w5 ⟨rfl, g5⟩)
      go_roundw
      case rel => exact ⟨j + 1, by omega, by go_num, grown_tr (grown_drew G.out) g5⟩
      case measure => simp [intOf]; omega
    · go_wp2_with fail
      go_ret
      exact ⟨rfl, G.out⟩
end Go.Proofs.Ytdpcebaggldaiaa
