/- In two parts, or at once: the statement's walk. -/
import Derived.Test.YtigmpinomfkefaaTAwake
import Derived.Test.YtigmpinomfkefaaTArgs
import Derived.Test.YtigmpinomfkefaaTRef
import Derived.Test.YtigmpinomfkefaaTParts
import Derived.Deep.RegionHeld3
import Derived.Deep.CutRange
import Derived.Deep.CutBlock
namespace Go.Proofs.Ytigmpinomfkefaa
open Go.RowKit Trl
set_option linter.unusedVariables false

theorem keep_store {X W : World} {a b c : Value} (g : X.grownBy W none) {q : Nat} (hq : X.heap.size ≤ q) : X.grownBy (((W.setCell ⟨q, 0, none⟩ a).setCell ⟨q, 1, none⟩ b).setCell ⟨q, 2, none⟩ c) none :=
  grown_more (grown_more (grown_more g (grown_set W ⟨q, 0, none⟩ a) (fun k e => .inr (by injection e with e; simp at e; omega))) (grown_set _ ⟨q, 1, none⟩ b) (fun k e => .inr (by injection e with e; simp at e; omega))) (grown_set _ ⟨q, 2, none⟩ c) (fun k e => .inr (by injection e with e; simp at e; omega))
/-- The place of the parting. -/
theorem cut_at (at_ : Int) (M : Nat) (hM : M ≤ 9000000000000000000) : ∃ n : Nat, n ≤ M ∧ wrap64 ((IntKind.u64.wrap at_).tmod ((M : Int) + 1)) = (n : Int) := by
  have h0 : 0 ≤ IntKind.u64.wrap at_ := by rw [IntKind.wrap_u64]; omega
  have h1 : (IntKind.u64.wrap at_).tmod ((M : Int) + 1) = (IntKind.u64.wrap at_) % ((M : Int) + 1) := Int.tmod_eq_emod_of_nonneg h0
  have h2 := Int.emod_nonneg (IntKind.u64.wrap at_) (show (M : Int) + 1 ≠ 0 by omega)
  have h3 := Int.emod_lt_of_pos (IntKind.u64.wrap at_) (show 0 < (M : Int) + 1 by omega)
  refine ⟨((IntKind.u64.wrap at_) % ((M : Int) + 1)).toNat, by omega, ?_⟩
  rw [h1]
  unfold wrap64
  omega
/-- A log in a box. -/
def Bo (w : World) (q : Nat) (b k : Int) (v : Value) : Prop := w.cell? ⟨q, 0, none⟩ = some (.int .i64 b) ∧ w.cell? ⟨q, 1, none⟩ = some (.int .i64 k) ∧ w.cell? ⟨q, 2, none⟩ = some v
theorem Bo.grown {w w' : World} {q : Nat} {b k : Int} {v : Value} (h : Bo w q b k v) (g : w.grownBy w' none) : Bo w' q b k v := ⟨g.cell h.1 (by simp), g.cell h.2.1 (by simp), g.cell h.2.2 (by simp)⟩
theorem Rz.grown {w w' : World} {base : Nat} {b k : Int} {o : Option (List En)} {B K : Int} {v : Value} {f : Bool} (h : Rz w base b k o B K v f) (g : w.grownBy w' none) : Rz w' base b k o B K v f := h.but g (fun q _ e => by cases e)
theorem Put_some {b k p q fx : Int} {l es A : List En} (h : Put b k l p q es fx = some A) : 0 ≤ p ∧ p ≤ 1099511627776 := by
  unfold Put at h
  split at h
  · cases h
  · rename_i hc
    simp only [Bool.or_eq_true, Bool.not_eq_true', decide_eq_true_eq, not_or, Bool.not_eq_false] at hc
    obtain ⟨⟨⟨hk, hp⟩, hq⟩, hf⟩ := hc
    obtain ⟨p1, p2, p3, p4, p5, p6, p7⟩ := chk_parts hk
    by_cases hpb : p < b
    · omega
    · rw [if_neg hpb] at h
      unfold putB at h
      split at h
      · rename_i hc
        omega
      · cases h
namespace trailParts
set_option maxRecDepth 100000 in
set_option maxHeartbeats 6400000 in
theorem walk (w : World) (v0 : Value) (o0 : ∃ b k l, Tr w v0 b k l) (p : Int) (wp : (Lit.int .i64 p).wf = true) (q : Int) (wq : (Lit.int .i64 q).wf = true) (v3 : Value) (o3 : ∃ l, Te w v3 l) (at_ : Int) (wat : (Lit.int .i64 at_).wf = true) (fx : Int) (wfx : (Lit.int .i64 fx).wf = true) :
    Calls Try.prog 3 #[v0, .int .i64 p, .int .i64 q, v3, .int .i64 at_, .int .i64 fx] w fun e w' => e = .returned (.bool true) ∧ Below w.heap.size w w' := by
  obtain ⟨b, k, l, sv, rfl, ht, _⟩ := o0
  obtain ⟨es, he, heb⟩ := o3
  have AW : Hid (∀ W, _) := awake_any
  have PU : Hid (∀ (W : World) (p q : Int) (es' : List En) (B K : Int) (v u : Value) (l' : List En), Sl W v l' → Sl W u es' → es'.length * 24 ≤ 140737488351232 → _) := fun W p q es' B K v u l' h1 h2 h3 => Put_any B K p q fx v u l' es' W h1 h2 h3
  obtain ⟨ad, c, hv, _, _, _⟩ := id ht
  subst hv
  obtain ⟨aq, cq, hv, hmc, hcq, _⟩ := id he
  subst hv
  have HT : Hid (∀ {W : World}, w.grownBy W none → Sl W (.slice ad l.length c) l) := fun {W} g => ht.grown g
  have HE : Hid (∀ {W : World}, w.grownBy W none → Sl W (.slice aq es.length cq) es) := fun {W} g => he.grown g
  obtain ⟨M, hM⟩ : ∃ M, es.length = M := ⟨_, rfl⟩
  have ML : Hid (es.length = M) := hM
  rw [hM] at HE heb hmc ⊢
  generalize l.length = N at *
  obtain ⟨n, hnM, hn⟩ := cut_at at_ M (by omega)
  clear ht he hM wp wq wfx wat
  go_enter Try.func3, Try.ntmps3
  go_wp2_with (first
    | (go_at_call 5; (with_reducible refine (AW.out _).mono ?_); rintro e w1 ⟨rfl, g1⟩; obtain ⟨b0, b1, b2⟩ := box_kept g1; have G1 := grown_tr (World.grownBy_alloc w _ none) g1)
    | (go_at_call 6; (with_reducible refine (PU.out _ p q es b k _ _ l (HT.out G1) (HE.out G1) (by rw [ML.out]; exact heb)).mono ?_); rintro e w2 ⟨B1, K1, a1, n1, c1, f1, rfl, hR1, g2⟩; have G2 := grown_tr G1 g2))
  have bo0 : Bo w1 w.heap.size b k (.slice ad N c) := ⟨b0, b1, b2⟩
  have bo0 := (bo0.grown g2).grown (World.grownBy_alloc w2 (.cells #[.int .i64 B1, .int .i64 K1, .slice a1 n1 c1] 24) none)
  have bo1 : Bo (w2.alloc (.cells #[.int .i64 B1, .int .i64 K1, .slice a1 n1 c1] 24)) w2.heap.size B1 K1 (.slice a1 n1 c1) := box_kept (grown_refl _ _)
  have R1 : Hid (Rz (w2.alloc (.cells #[.int .i64 B1, .int .i64 K1, .slice a1 n1 c1] 24)) w.heap.size b k (Put b k l p q es fx) B1 K1 (.slice a1 n1 c1) f1) := (hR1.out.low G1.size).grown (World.grownBy_alloc w2 (.cells #[.int .i64 B1, .int .i64 K1, .slice a1 n1 c1] 24) none)
  have G3 := grown_alloc G2 (.cells #[.int .i64 B1, .int .i64 K1, .slice a1 n1 c1] 24)
  generalize w2.alloc (.cells #[.int .i64 B1, .int .i64 K1, .slice a1 n1 c1] 24) = w3 at *
  generalize w2.heap.size = Q1 at *
  obtain ⟨s0, s1, s2⟩ := bo0
  have BO0 : Hid (Bo w3 w.heap.size b k (.slice ad N c)) := ⟨s0, s1, s2⟩
  have BO1 : Hid (Bo w3 Q1 B1 K1 (.slice a1 n1 c1)) := bo1
  have HG3 : Hid (w.grownBy w3 none) := G3
  obtain ⟨a5, c5, hs5, hS5⟩ := (HE.out G3).upto (k := n) (by rw [ML.out]; exact hnM)
  have HS5 : Hid (∀ {W : World}, w3.grownBy W none → Sl W (.slice a5 n c5) (es.take n)) := fun {W} g => hS5.grown g
  have KS : Hid (∀ W, w3.grownBy W none → w3.grownBy W none ∧ w3.heap.size ≤ W.heap.size ∧ W.cell? ⟨w.heap.size, 0, none⟩ = some (.int .i64 b) ∧ W.cell? ⟨w.heap.size, 1, none⟩ = some (.int .i64 k) ∧ W.cell? ⟨w.heap.size, 2, none⟩ = some (.slice ad N c)) := fun W g => ⟨g, g.size, g.cell s0 (by simp), g.cell s1 (by simp), g.cell s2 (by simp)⟩
  have YS : Hid (∀ {W : World}, ((w3.alloc (.cells #[.int .i64 0, .int .i64 0, .slice none 0 0] 24)).drew).grownBy W none → Bo W w3.heap.size 0 0 (.slice none 0 0) ∧ ∀ i, W.frozen? ⟨w3.heap.size, i, none⟩ = false) := fun {W} g => ⟨box_kept (grown_tr (grown_drew (grown_refl _ _)) g), frozen_kept (grown_tr (grown_drew (grown_refl _ _)) g)⟩
  clear b0 b1 b2 g1 g2 G1 G2 G3 bo1 hR1 AW hS5 hn
  go_cut [16, 17] from 39 to 49 (fun t16 t17 wx => ∃ q2 B2 K2 a2 n2 c2 f2, t16 = .pointer (some ⟨q2, 0, none⟩) ∧ t17 = .bool f2 ∧ Hid (w3.grownBy wx none ∧ Bo wx q2 B2 K2 (.slice a2 n2 c2) ∧ Rz wx w.heap.size b k (Put b k l p q (es.take n) fx) B2 K2 (.slice a2 n2 c2) f2))
  case first =>
    go_region_held3 (fun W => w3.grownBy W none ∧ w3.heap.size ≤ W.heap.size ∧ W.cell? ⟨w.heap.size, 0, none⟩ = some (.int .i64 b) ∧ W.cell? ⟨w.heap.size, 1, none⟩ = some (.int .i64 k) ∧ W.cell? ⟨w.heap.size, 2, none⟩ = some (.slice ad N c))
      (first | (refine KS.out _ ?_; first
        | (refine keep_store (And.left ‹_›) ?_; first | (exact Nat.le_refl _) | (exact And.left (And.right ‹_›)) | (simp; exact And.left (And.right ‹_›)))
        | (repeat (first | assumption | (with_reducible exact grown_refl _ _) | (with_reducible refine grown_drew ?_) | (with_reducible refine grown_alloc ?_ _) | (with_reducible exact And.left ‹_›)))))
      (first | (go_at_call 6; (with_reducible refine (PU.out _ p q (es.take n) b k _ _ l (HT.out (grown_tr HG3.out (And.left ‹_›))) (HS5.out (And.left ‹_›)) ?hb).mono ?_); (case hb => rw [List.length_take]; omega); rintro e w4 ⟨B2, K2, a2, n2, c2, f2, rfl, hR2, g4⟩; have g5 : w3.grownBy w4 none := grown_tr (And.left ‹_›) g4; try (have g6 := YS.out g4; obtain ⟨⟨y0, y1, y2⟩, yf⟩ := g6; have e0 := yf 0; have e1 := yf 1; have e2 := yf 2)))
    · go_wp2_with fail
      go_meet
      exact ⟨_, B2, K2, a2, n2, c2, f2, rfl, rfl, grown_alloc g5 _, box_kept (grown_refl _ _), (hR2.out.low HG3.out.size).grown (World.grownBy_alloc w4 _ none)⟩
    · go_wp2_with fail
      go_meet
      obtain ⟨j0, j1, j2, sg⟩ := put3 (a := .int .i64 B2) (b := .int .i64 K2) (c := .slice a2 n2 c2) y0 y1 y2
      have hb3 := hR2.out.lt
      have hz2 := HG3.out.size
      exact ⟨_, B2, K2, a2, n2, c2, f2, rfl, rfl, keep_store g5 (Nat.le_refl _), ⟨j0, j1, j2⟩, (hR2.out.low (by simp; omega)).but sg (fun k hk e => by have := (hb3 k hk).1; injection e with e; simp at this; omega)⟩
  case rest =>
    obtain ⟨q2, B2, K2, a2, n2, c2, f2, rfl, rfl, CF⟩ := hcut
    clear KS YS s0 s1 s2 hs5 HS5
    have BO0 : Hid (Bo wc w.heap.size b k (.slice ad N c)) := BO0.out.grown CF.out.1
    have BO1 : Hid (Bo wc Q1 B1 K1 (.slice a1 n1 c1)) := BO1.out.grown CF.out.1
    have R1 : Hid (Rz wc w.heap.size b k (Put b k l p q es fx) B1 K1 (.slice a1 n1 c1) f1) := R1.out.grown CF.out.1
    have GC : Hid (w.grownBy wc none) := grown_tr HG3.out CF.out.1
    cases hP : Put b k l p q es fx with
    | none =>
      rw [hP] at R1
      obtain ⟨rfl, rfl, _, rfl⟩ := R1.out
      clear PU HE HT
      go_wp2_with fail
      go_ret
      exact ⟨rfl, grown_below GC.out⟩
    | some A =>
    rw [hP] at R1
    obtain ⟨rfl, rfl, rfl, HA⟩ := R1.out
    have BO1' := BO1
    have HA : Hid (eE.Own wc w.heap.size (.slice a1 n1 c1) A) := HA
    by_cases hn0 : n = 0
    · subst hn0
      clear PU HE HT
      go_wp2_with fail
      go_ret
      exact ⟨rfl, grown_below GC.out⟩
    obtain ⟨B, hB, hC⟩ := put_parts hP (n := n) (by omega) (by rw [ML.out]; exact hnM)
    have R2 := CF.out.2.2
    rw [hB] at R2
    obtain ⟨rfl, rfl, rfl, HB⟩ := R2
    have HB : Hid (eE.Own wc w.heap.size (.slice a2 n2 c2) B) := HB
    have BO2 : Hid (Bo wc q2 B2 K2 (.slice a2 n2 c2)) := CF.out.2.1
    have hpr := Put_some hP
    have HPC : Hid (B2 ≤ p + (n : Int) → ∃ x, es[n - 1]? = some x ∧ Put B2 K2 B (p + (n : Int)) x.1 (es.drop n) fx = some A) := hC
    clear CF hB hP hC R1 HG3 BO1
    have BO1 : Hid (Bo wc Q1 B2 K2 (.slice a1 n1 c1)) := BO1'.out
    clear BO1'
    obtain ⟨x, hx⟩ : ∃ x, es[n - 1]? = some x := ⟨_, List.getElem?_eq_getElem (by rw [ML.out]; omega)⟩
    obtain ⟨g, o, rfl, x0, _⟩ := at_e (HE.out GC.out) hx
    obtain ⟨a6, m6, c6, hs6, hm6, hS6⟩ := (HE.out GC.out).from (k := n) (by rw [ML.out]; exact hnM)
    have HS6 : Hid (∀ {W : World}, wc.grownBy W none → Sl W (.slice a6 m6 c6) (es.drop n)) := fun {W} g => hS6.grown g
    obtain ⟨s0, s1, s2⟩ := BO2.out
    have KS : Hid (∀ W, wc.grownBy W none → wc.grownBy W none ∧ wc.heap.size ≤ W.heap.size ∧ W.cell? ⟨q2, 0, none⟩ = some (.int .i64 B2) ∧ W.cell? ⟨q2, 1, none⟩ = some (.int .i64 K2) ∧ W.cell? ⟨q2, 2, none⟩ = some (.slice a2 n2 c2) ∧ W.cell? ⟨g, o + (n - 1) * 2, none⟩ = some (.int .i64 x.1)) := fun W gr => ⟨gr, gr.size, gr.cell s0 (by simp), gr.cell s1 (by simp), gr.cell s2 (by simp), gr.cell x0 (by simp)⟩
    have YS : Hid (∀ {W : World}, ((wc.alloc (.cells #[.int .i64 0, .int .i64 0, .slice none 0 0] 24)).drew).grownBy W none → Bo W wc.heap.size 0 0 (.slice none 0 0) ∧ ∀ i, W.frozen? ⟨wc.heap.size, i, none⟩ = false) := fun {W} g => ⟨box_kept (grown_tr (grown_drew (grown_refl _ _)) g), frozen_kept (grown_tr (grown_drew (grown_refl _ _)) g)⟩
    have HX : Hid (∀ y, es[n - 1]? = some y → y = x) := fun y hy => by rw [hx] at hy; injection hy with hy; exact hy.symm
    generalize hwd : wc = wd at *
    clear hwd hx hS6
    obtain ⟨xt, xs⟩ := x
    have hp0 := hpr.1
    have hp1 := hpr.2
    have k1 : (0 : Int) ≤ (n : Int) - 1 := by omega
    have k2 : (n : Int) - 1 < (M : Int) := by omega
    have k3 : IntKind.i64.wrap ((n : Int) - 1) = (n : Int) - 1 := by rw [IntKind.wrap_i64]; omega
    have k4 : IntKind.i64.wrap (p + (n : Int)) = p + (n : Int) := by rw [IntKind.wrap_i64]; omega
    have k5 : ((n : Int) - 1).toNat = n - 1 := by omega
    have k6 : (1 : Int) ≤ (n : Int) := by omega
    have k7 : (n : Int) ≤ (M : Int) := by omega
    go_wp2_with fail
    go_cut [18, 19] from 58 to 75 (fun t18 t19 wx => ∃ q3 B3 K3 a3 n3 c3 f3, t18 = .pointer (some ⟨q3, 0, none⟩) ∧ t19 = .bool f3 ∧ Hid (wd.grownBy wx none ∧ Bo wx q3 B3 K3 (.slice a3 n3 c3) ∧ Rz wx w.heap.size B2 K2 (Put B2 K2 B (p + (n : Int)) xt (es.drop n) fx) B3 K3 (.slice a3 n3 c3) f3))
    case first =>
      go_region_held3 (fun W => wd.grownBy W none ∧ wd.heap.size ≤ W.heap.size ∧ W.cell? ⟨q2, 0, none⟩ = some (.int .i64 B2) ∧ W.cell? ⟨q2, 1, none⟩ = some (.int .i64 K2) ∧ W.cell? ⟨q2, 2, none⟩ = some (.slice a2 n2 c2) ∧ W.cell? ⟨g, o + (n - 1) * 2, none⟩ = some (.int .i64 xt))
        (first | (refine KS.out _ ?_; first
          | (refine keep_store (And.left ‹_›) ?_; first | (exact Nat.le_refl _) | (exact And.left (And.right ‹_›)) | (simp; exact And.left (And.right ‹_›)))
          | (repeat (first | assumption | (with_reducible exact grown_refl _ _) | (with_reducible refine grown_drew ?_) | (with_reducible refine grown_alloc ?_ _) | (with_reducible exact And.left ‹_›)))))
        (first | (go_at_call 6; (with_reducible refine (PU.out _ (p + (n : Int)) xt (es.drop n) B2 K2 _ _ B ((Sl.own HB.out).grown (And.left ‹_›)) (HS6.out (And.left ‹_›)) ?hb).mono ?_); (case hb => rw [List.length_drop]; have := ML.out; omega); rintro e w4 ⟨B3, K3, a3, n3, c3, f3, rfl, hR3, g4⟩; have g5 : wd.grownBy w4 none := grown_tr (And.left ‹_›) g4; try (have g6 := YS.out g4; obtain ⟨⟨y0, y1, y2⟩, yf⟩ := g6; have e0 := yf 0; have e1 := yf 1; have e2 := yf 2)))
      · go_wp2_with fail
        go_meet
        exact ⟨_, B3, K3, a3, n3, c3, f3, rfl, rfl, grown_alloc g5 _, box_kept (grown_refl _ _), (hR3.out.low GC.out.size).grown (World.grownBy_alloc w4 _ none)⟩
      · go_wp2_with fail
        go_meet
        obtain ⟨j0, j1, j2, sg⟩ := put3 (a := .int .i64 B3) (b := .int .i64 K3) (c := .slice a3 n3 c3) y0 y1 y2
        have hb3 := hR3.out.lt
        have hz2 := GC.out.size
        exact ⟨_, B3, K3, a3, n3, c3, f3, rfl, rfl, keep_store g5 (Nat.le_refl _), ⟨j0, j1, j2⟩, (hR3.out.low (by simp; omega)).but sg (fun k hk e => by have := (hb3 k hk).1; injection e with e; simp at this; omega)⟩
    case rest =>
      obtain ⟨q3, B3, K3, a3, n3, c3, f3, rfl, rfl, CF⟩ := hcut
      have GW : Hid (w.grownBy wc none) := grown_tr GC.out CF.out.1
      obtain ⟨t0, t1, t2⟩ := BO0.out.grown CF.out.1
      clear KS YS s0 s1 s2 hs6 HS6 PU
      by_cases hpb : p < B2
      · by_cases hpn : B2 ≤ p + (n : Int)
        · obtain ⟨y, hy, hA⟩ := HPC.out hpn
          obtain rfl := HX.out y hy
          have R3 := CF.out.2.2
          rw [hA] at R3
          obtain ⟨rfl, rfl, rfl, _⟩ := R3
          go_wp2_with fail
          go_ret
          exact ⟨rfl, grown_below GW.out⟩
        · have hpn' : p + (n : Int) < B2 := by omega
          cases f3
          all_goals
            go_wp2_with fail
            go_ret
            exact ⟨by first | rfl | exact ret_bool (decide_eq_true hpn'), grown_below GW.out⟩
      · obtain ⟨y, hy, hA⟩ := HPC.out (by omega)
        obtain rfl := HX.out y hy
        have R3 := CF.out.2.2
        rw [hA] at R3
        obtain ⟨rfl, rfl, rfl, H3⟩ := R3
        have SS := same_same B3 K3 _ _ A wc (Sl.own (HA.out.grown CF.out.1)) (Sl.own H3)
        obtain ⟨u0, u1, u2⟩ := BO1.out.grown CF.out.1
        obtain ⟨i0, i1, i2⟩ := CF.out.2.1
        clear CF
        go_wp2_with (go_at_call 7; (with_reducible refine SS.mono ?_); rintro e w9 ⟨rfl, g9⟩)
        go_ret
        exact ⟨rfl, grown_below (grown_tr GW.out g9)⟩
end trailParts
end Go.Proofs.Ytigmpinomfkefaa
