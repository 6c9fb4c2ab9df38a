/- changed: its beginning. -/
import Derived.Test.YtlolhdijadhklaaAState
import Derived.Test.YtlolhdijadhklaaASplit
import Derived.Test.YtlolhdijadhklaaAMerged
import Derived.Test.YtlolhdijadhklaaAPlanB
namespace Go.Proofs.Ytlolhdijadhklaa
open Go.RowKit Atl
set_option linter.unusedVariables false
set_option maxRecDepth 10000

/-- What is left of a map that is written over. -/
def LeftM (w : World) (base : Nat) (v : Value) (M : Am) (e : Ending) (w' : World) : Prop := ∃ u : S3, e = .returned (av M u) ∧ eS.Own w' base (.slice u.a u.n u.c) M.l ∧ u.n = M.l.length ∧ (∀ k, (Value.slice u.a u.n u.c).ownBlock = some k → v.ownBlock = some k ∨ w.heap.size ≤ k) ∧ w.grownBy w' v.ownBlock
theorem keep_store8 {X W : World} {a b c d e f k m : Value} (g : X.grownBy W none) {q : Nat} (hq : X.heap.size ≤ q) : X.grownBy ((((((((W.setCell ⟨q, 0, none⟩ a).setCell ⟨q, 1, none⟩ b).setCell ⟨q, 2, none⟩ c).setCell ⟨q, 3, none⟩ d).setCell ⟨q, 4, none⟩ e).setCell ⟨q, 5, none⟩ f).setCell ⟨q, 6, none⟩ k).setCell ⟨q, 7, none⟩ m) none :=
  grown_more g (grown_setCells q [a, b, c, d, e, f, k, m] 0 W) (fun k e => .inr (by injection e with e; omega))
set_option maxRecDepth 100000 in
set_option maxHeartbeats 6400000 in
theorem changed_any (a : Am) (u : S3) (i : Nat) (s : Sp) (w : World) (base : Nat) (hO : eS.Own w base (.slice u.a u.n u.c) a.l) (hn : u.n = a.l.length) (hb : base ≤ w.heap.size) (hl : a.l.length ≤ 16) (hi : idx a.l a.p.sh = i) (hs : a.l[i]? = some s) (e1 : 1 ≤ s.ep) (e2 : s.ep ≤ 1099511627776) (hk : a.p.k = 1 ∨ a.p.k = 2 ∨ a.p.k = 3) (ht : a.p.k = 3 → ∃ t, a.l[i + 1]? = some t ∧ 1 ≤ t.ep ∧ t.ep ≤ 1099511627776) :
    Calls Try.prog 83 #[av a u] w fun e w' => LeftM w base (.slice u.a u.n u.c) (one1 a i s) e w' := by
  obtain ⟨W0, hW0⟩ : ∃ W0, W0 = (w.alloc (.cells (aa a u) 26)).alloc (.cells zaa 26) := ⟨_, rfl⟩
  obtain ⟨g0, sz0, r0, k0', k0⟩ := two_boxes w a u zaa _ _ W0 hW0
  have RA : Rat w a u := ⟨hO.rx, hn, by omega⟩
  obtain ⟨FO, hFO⟩ : ∃ FO : Nat → Prop, FO = fun k => (Value.slice u.a u.n u.c).ownBlock = some k := ⟨_, rfl⟩
  have HFO : Hid (∀ w', Chg FO w w' → w.grownBy w' (Value.slice u.a u.n u.c).ownBlock) := fun w' h => ⟨h.os, h.tape, h.output, h.size, fun k hk hn => h.block k hk (fun e => by subst hFO; exact hn (by first | exact e | exact e.symm))⟩
  have HFO2 : Hid (∀ k, FO k → (Value.slice u.a u.n u.c).ownBlock = some k) := fun k h => by subst hFO; exact h
  have S0 : St FO w W0 w.heap.size (w.heap.size + 1) base a u := ⟨k0' _ (grown_refl _ _), k0 _ (grown_refl _ _), hO.grown g0, fun k e => by have := hO.lt k e; omega, hn, by omega, Chg.of (F := FO) g0 (by simp), Nat.le_refl _, by omega, by omega, by omega, fun k e => .inl (by rw [hFO]; exact e)⟩
  clear hFO
  have PO : ∀ W, W0.grownBy W none → Calls Try.prog 54 #[av a u, .int .i64 a.p.sh] W fun e w' => e = .returned (.int .i64 (i : Int)) ∧ W.grownBy w' none := fun W g => by
    have := place_any a u a.p.sh W (RA.grown (grown_tr g0 g))
    rwa [plc_some (by rw [hi]; exact hs), hi] at this
  have CA : Hid (∀ W, W0.grownBy W none → W.rangeAt w.heap.size 0 (ac a u)) := r0
  have PI : Hid (∀ W, W0.grownBy W none → W.rangeAt w.heap.size 3 (pc a.p)) := fun W g => plan_in (r0 W g)
  have HW0 : Hid (W0 = _) := hW0
  have HSS : Hid (a.l[i]? = some s) := hs
  have HS0 : Hid (St FO w W0 w.heap.size (w.heap.size + 1) base a u) := S0
  have c5 := (cells_a (r0 W0 (grown_refl _ _))).2.2.2.2.2.1
  clear hW0 g0 sz0 r0 k0' k0 S0 RA hO hn hs hi
  go_enter Try.func83, Try.ntmps83
  go_upto_region 1 with fail
  rw [show (#[Value.int .i64 0, .int .i64 0, .slice none 0 0, .int .i64 0, .int .i64 0, .int .i64 0, .int .i64 0, .int .i64 0, .int .i64 0, .int .i64 0, .string ⟨#[]⟩] : Array Value) = zaa from rfl, ← HW0.out]
  have PH : Hid (∀ W, W0.grownBy W none → _) := PO
  have GB : Hid (W0.grownBy (W0.alloc (.cells (#[.int .i64 0, .int .i64 0, .int .i64 0, .int .i64 0, .int .i64 0, .int .i64 0, .int .i64 0, .string ⟨#[]⟩] : Array Value) 24)).drew none) := grown_drew (World.grownBy_alloc _ _ none)
  have YS : Hid (∀ {W : World}, ((W0.alloc (.cells (#[.int .i64 0, .int .i64 0, .int .i64 0, .int .i64 0, .int .i64 0, .int .i64 0, .int .i64 0, .string ⟨#[]⟩] : Array Value) 24)).drew).grownBy W none → Cs W W0.heap.size zpa.toList) := fun {W} g => cs_new (grown_tr (grown_drew (grown_refl _ _)) g)
  clear PO c5
  obtain ⟨a0, a1, a2, a3, a4, a5, a6, a7, a8, a9, a10⟩ := cells_a (CA.out W0 (grown_refl _ _))
  obtain ⟨b0, b1, b2, b3, b4, b5, b6, b7, b8, b9, b10⟩ := cells_a (CA.out _ GB.out)
  go_cut [3, 4] from 5 to 12 (fun t3 t4 wx => ∃ q2, t3 = .pointer (some ⟨q2, 0, none⟩) ∧ t4 = .int .i64 (i : Int) ∧ Hid (W0.grownBy wx none ∧ wx.rangeAt q2 0 (pc a.p) ∧ W0.heap.size ≤ q2))
  case first =>
    go_region_with (first | (go_at_call 54; (with_reducible refine (PH.out _ ?_).mono ?_); (first | exact grown_drew (grown_refl _ _) | exact GB.out); rintro e w2 ⟨rfl, g2⟩; first | (have gg := grown_tr (grown_drew (grown_refl W0 none)) g2; obtain ⟨c0, c1, c2, c3, c4, c5, c6, c7, c8, c9, c10⟩ := cells_a (CA.out _ gg); obtain ⟨d0, d1, d2, d3, d4, d5, d6, d7, d8, d9, d10⟩ := cells_a (CA.out (w2.alloc (.cells (#[.int .i64 0, .int .i64 0, .int .i64 0, .int .i64 0, .int .i64 0, .int .i64 0, .int .i64 0, .string ⟨#[]⟩] : Array Value) 24)) (grown_alloc gg _))) | (have gg := grown_tr GB.out g2; obtain ⟨c0, c1, c2, c3, c4, c5, c6, c7, c8, c9, c10⟩ := cells_a (CA.out _ gg); have y := YS.out g2; obtain ⟨y0, y1, y2, y3, y4, y5, y6, y7⟩ := cells_p (p := zP) y.1; have fz := y.2)))
    all_goals
      go_wp2_with fail
      go_meet
      first
        | (refine ⟨w2.heap.size, rfl, rfl, ?_⟩; exact ⟨grown_alloc gg _, (cs_new (C := pa a.p) (t := 24) (grown_refl _ _)).1, gg.size⟩)
        | (refine ⟨W0.heap.size, rfl, rfl, ?_⟩; exact ⟨keep_store8 gg (Nat.le_refl _), ((YS.out g2).sets (pc a.p) rfl).1, Nat.le_refl _⟩)
  case rest =>
    obtain ⟨q2, rfl, rfl, CF⟩ := hcut
    have S1 : Hid (St FO w wc w.heap.size (w.heap.size + 1) base a u) := HS0.out.grown CF.out.1
    have CP : Hid (wc.rangeAt q2 0 (pc a.p)) := CF.out.2.1
    obtain ⟨p0, p1, p2, p3, p4, p5, p6, p7⟩ := cells_p CP.out
    have b2 := (cells_a S1.out.row).2.2.1
    obtain ⟨g, cap, eu, rng, fz⟩ := S1.out.own.at_ HSS.out
    have sl := S1.out.own
    have ba := S1.out.2.2.2.2.2.2.2.2.2.2.1
    clear a0 a1 a2 a3 a4 a5 a6 a7 a8 a9 a10 b0 b1 b3 b4 b5 b6 b7 b8 b9 b10 HS0 YS PH GB PI CA HW0 CF p1 p2 p3 p5 p6 p7
    obtain ⟨ua, un, uc⟩ := u
    injection eu with eu en ec
    subst eu en ec
    have hi1 := (List.getElem?_eq_some_iff.1 HSS.out).1
    have dW : IntKind.i64.wrap (s.ep + 1) = s.ep + 1 := by rw [IntKind.wrap_i64]; omega
    have hiN : (i : Int) < (a.l.length : Int) := by omega
    have LEN : Hid (a.l.length ≤ 16) := hl
    rcases hk with k1 | k2 | k3
    · have e0 : one1 a i s = ⟨a.g, a.la, a.l.set i (movS a.p s), ⟨a.p.k, 2, a.p.sh, a.p.ot, a.p.gp, a.p.pa, a.p.ep, a.p.key⟩⟩ := by
        unfold one1
        rw [if_pos k1, set_chg hi1]
      have E0 : Hid (one1 a i s = _) := e0
      have d1 : (a.p.k == 1) = true := by simpa using k1
      have c4 := rng 4 _ rfl
      have c3 := rng 3 _ rfl
      have f4 := fz (i * 5 + 4)
      change wc.cell? ⟨g, i * 5 + 4, none⟩ = _ at c4
      change wc.cell? ⟨g, i * 5 + 3, none⟩ = _ at c3
      have S2 : Hid (St FO w (wc.setCell ⟨g, i * 5 + 4, none⟩ (.int .i64 a.p.gp)) w.heap.size (w.heap.size + 1) base ⟨a.g, a.la, a.l.set i ⟨s.fr, s.up, s.sh, s.ep, a.p.gp⟩, a.p⟩ ⟨some ⟨g, 0, none⟩, a.l.length, uc⟩) := S1.out.span rfl HSS.out 4 (by omega) _ rfl
      have h2 : (a.l.set i (⟨s.fr, s.up, s.sh, s.ep, a.p.gp⟩ : Sp))[i]? = some ⟨s.fr, s.up, s.sh, s.ep, a.p.gp⟩ := by rw [List.getElem?_set_self hi1]
      have S3 : Hid (St FO w ((wc.setCell ⟨g, i * 5 + 4, none⟩ (.int .i64 a.p.gp)).setCell ⟨g, i * 5 + 3, none⟩ (.int .i64 (s.ep + 1))) w.heap.size (w.heap.size + 1) base ⟨a.g, a.la, a.l.set i (movS a.p s), a.p⟩ ⟨some ⟨g, 0, none⟩, a.l.length, uc⟩) := by
        have := S2.out.span rfl h2 3 (by omega) (.int .i64 (s.ep + 1)) (x' := movS a.p s) rfl
        rw [List.set_set] at this
        exact this
      clear rng fz sl ba hl k1 e0 h2 e1 e2 ht
      go_upto_region 5 with fail
      obtain ⟨w2, hw2⟩ : ∃ w2, w2 = wc.setCell ⟨g, i * 5 + 4, none⟩ (.int .i64 a.p.gp) := ⟨_, rfl⟩
      rw [← hw2] at S2 S3 ⊢
      obtain ⟨gg, cap2, ev, rng2, fz2⟩ := S2.out.own.at_ (i := i) (by rw [List.getElem?_set_self hi1])
      injection ev with ev en ec
      clear en ec
      injection ev with ev
      injection ev with ev _ _
      subst ev
      have u3 := rng2 3 _ rfl
      change w2.cell? ⟨g, i * 5 + 3, none⟩ = _ at u3
      have v3 := fz2 (i * 5 + 3)
      have u2 := (cells_a S2.out.row).2.2.1
      have HW2 : Hid (w2 = _) := hw2
      clear rng2 fz2 hw2 c3 c4 f4
      go_upto_region 6 with fail
      obtain ⟨w3, hw3⟩ : ∃ w3, w3 = w2.setCell ⟨g, i * 5 + 3, none⟩ (.int .i64 (s.ep + 1)) := ⟨_, rfl⟩
      rw [← hw3] at S3 ⊢
      have HW3 : Hid (w3 = _) := hw3
      have x4 := S3.out.1.1 4 _ rfl
      rw [Nat.zero_add] at x4
      have xf := S3.out.1.2 4
      clear hw3 u3 v3 u2
      have S4 : Hid _ := S3.out.phase 2
      replace S4 : Hid (St FO w (w3.setCell ⟨w.heap.size, 4, none⟩ (.int .i64 2)) w.heap.size (w.heap.size + 1) base ⟨a.g, a.la, a.l.set i (movS a.p s), ⟨a.p.k, 2, a.p.sh, a.p.ot, a.p.gp, a.p.pa, a.p.ep, a.p.key⟩⟩ ⟨some ⟨g, 0, none⟩, a.l.length, uc⟩) := S3.out.phase 2
      go_wp2_with (first
        | (refine load_a w.heap.size 0 ⟨a.g, a.la, a.l.set i (movS a.p s), ⟨a.p.k, 2, a.p.sh, a.p.ot, a.p.gp, a.p.pa, a.p.ep, a.p.key⟩⟩ ⟨some ⟨g, 0, none⟩, a.l.length, uc⟩ rfl S4.out.row ?_)
        | (refine store_row (ty := 26) (w.heap.size + 1) 0 (aa ⟨a.g, a.la, a.l.set i (movS a.p s), ⟨a.p.k, 2, a.p.sh, a.p.ot, a.p.gp, a.p.pa, a.p.ep, a.p.key⟩⟩ ⟨some ⟨g, 0, none⟩, a.l.length, uc⟩) rfl rfl (S4.out.2.1.there (by simp)) (by kernel_rfl) (by simp [Value.oneCell']) ?_; intro w9 h9; have H9 : Hid (_ = _) := h9; clear h9))
      obtain ⟨r9, o9, R9, c9⟩ := S4.out.done H9.out
      refine bodyPost_ret (v := av ⟨a.g, a.la, a.l.set i (movS a.p s), ⟨a.p.k, 2, a.p.sh, a.p.ot, a.p.gp, a.p.pa, a.p.ep, a.p.key⟩⟩ ⟨some ⟨g, 0, none⟩, a.l.length, uc⟩) ?_ rfl ?_
      · exact res_row1 (P := Try.prog) (fn := Try.f83) (p := 2) (ty := 26) rfl rfl r9 Try.underlying26 rfl (by kernel_rfl)
      · rw [E0.out]; exact ⟨_, rfl, o9, by simp, fun k e => (S4.out.2.2.2.2.2.2.2.2.2.2.2 k e).imp (HFO2.out k) id, HFO.out _ c9⟩
    · have e0 : one1 a i s = ⟨a.g, a.la, chgL a.l i (i + 1) [lowS a.p s, uppS a.p s], zP⟩ := by
        unfold one1
        rw [if_neg (by rw [k2]; decide), if_pos k2]
      have E0 : Hid (one1 a i s = _) := e0
      have d1 : (a.p.k == 1) = false := by rw [k2]; rfl
      have d2 : (a.p.k == 2) = true := by rw [k2]; rfl
      have SP := split_any g a.l.length uc a.l i s a.p wc base sl ba HSS.out (by omega) e1 e2
      have LL : Hid ((chgL a.l i (i + 1) [lowS a.p s, uppS a.p s]).length ≤ 4096) := by show _ ≤ _; unfold chgL; simp; omega
      clear rng fz sl ba hl k2 e0 e1 e2 ht
      generalize chgL a.l i (i + 1) [lowS a.p s, uppS a.p s] = L at *
      go_upto_region 12 with (first
        | (refine load_p q2 0 a.p rfl CP.out ?_)
        | (go_at_call 102; (with_reducible refine SP.mono ?_); rintro e w3 ⟨u3, rfl, o3, n3, g3⟩; have S3 : Hid (St FO w (w3.setCell ⟨w.heap.size, 2, none⟩ (.slice u3.a u3.n u3.c)) w.heap.size (w.heap.size + 1) base ⟨a.g, a.la, L, a.p⟩ u3) := (S1.out.lay g3 o3 n3 o3.len LL.out); have N3 : Hid (u3.n = L.length) := o3.len; have cq : Chg (fun k => some k = (Value.slice (some ⟨g, 0, none⟩) a.l.length uc).ownBlock) wc w3 := Chg.of g3 (fun k e => e.symm); have y2 : w3.cell? ⟨w.heap.size, 2, none⟩ = some (.slice (some ⟨g, 0, none⟩) a.l.length uc) := cq.cell b2 (fun e => (S1.out.2.2.2.1 w.heap.size e.symm).1 rfl); have yf : w3.frozen? ⟨w.heap.size, 2, none⟩ = false := (cq.frozen (by have := S1.out.2.2.2.2.2.2.2.2.2.1; show w.heap.size < _; omega) (fun e => (S1.out.2.2.2.1 w.heap.size e.symm).1 rfl)).trans (S1.out.1.2 2); clear cq))
      obtain ⟨w4, hw4⟩ : ∃ w4, w4 = w3.setCell ⟨w.heap.size, 2, none⟩ (.slice u3.a u3.n u3.c) := ⟨_, rfl⟩
      rw [← hw4] at S3 ⊢
      have HW4 : Hid (w4 = _) := hw4
      have TH : Hid (w4.there w.heap.size 3 8) := fun j hj => ⟨by
        have := S3.out.row (3 + j) ((ac ⟨a.g, a.la, L, a.p⟩ u3)[3 + j]'(by simp; omega)) (List.getElem?_eq_getElem _)
        rw [Nat.zero_add] at this
        rw [this]; rfl, S3.out.1.2 _⟩
      have S5 : Hid (St FO w (w4.setCells w.heap.size 3 (pc zP)) w.heap.size (w.heap.size + 1) base ⟨a.g, a.la, L, zP⟩ u3) := S3.out.plan zP
      clear hw4 y2 yf S1 b2 CP p0 p4 SP g3
      go_wp2_with (first
        | (refine store_row (ty := 24) w.heap.size 3 (pa zP) rfl rfl TH.out (by kernel_rfl) (by simp [Value.oneCell']) ?_; intro w6 h6; rw [show (pa zP).toList = pc zP from rfl] at h6; rw [← h6] at S5; clear h6)
        | (refine load_a w.heap.size 0 ⟨a.g, a.la, L, zP⟩ u3 rfl S5.out.row ?_)
        | (refine store_row (ty := 26) (w.heap.size + 1) 0 (aa ⟨a.g, a.la, L, zP⟩ u3) rfl rfl (S5.out.2.1.there (by simp)) (by kernel_rfl) (by simp [Value.oneCell']) ?_; intro w9 h9; have H9 : Hid (_ = _) := h9; clear h9))
      obtain ⟨r9, o9, R9, c9⟩ := S5.out.done H9.out
      refine bodyPost_ret (v := av ⟨a.g, a.la, L, zP⟩ u3) ?_ rfl ?_
      · exact res_row1 (P := Try.prog) (fn := Try.f83) (p := 2) (ty := 26) rfl rfl r9 Try.underlying26 rfl (by kernel_rfl)
      · rw [E0.out]; exact ⟨_, rfl, o9, N3.out, fun k e => (S5.out.2.2.2.2.2.2.2.2.2.2.2 k e).imp (HFO2.out k) id, HFO.out _ c9⟩
    · obtain ⟨t, ht1, t1, t2⟩ := ht k3
      have e0 : one1 a i s = ⟨a.g, a.la, chgL a.l i (i + 2) [mrgS s t], zP⟩ := by
        unfold one1
        rw [if_neg (by rw [k3]; decide), if_neg (by rw [k3]; decide), List.getD_eq_getElem?_getD, ht1]
        rfl
      have E0 : Hid (one1 a i s = _) := e0
      have d1 : (a.p.k == 1) = false := by rw [k3]; rfl
      have d2 : (a.p.k == 2) = false := by rw [k3]; rfl
      have d3 : (a.p.k == 3) = true := by rw [k3]; rfl
      have SP := merged_any g a.l.length uc a.l i s t wc base sl ba HSS.out ht1 (by omega) (by omega) (by omega)
      have LL : Hid ((chgL a.l i (i + 2) [mrgS s t]).length ≤ 4096) := by show _ ≤ _; unfold chgL; simp; omega
      clear rng fz sl ba hl k3 e0 e1 e2 ht ht1 t1 t2
      generalize chgL a.l i (i + 2) [mrgS s t] = L at *
      go_upto_region 12 with (first
        | (refine load_p q2 0 a.p rfl CP.out ?_)
        | (go_at_call 103; (with_reducible refine SP.mono ?_); rintro e w3 ⟨u3, rfl, o3, n3, g3⟩; have S3 : Hid (St FO w (w3.setCell ⟨w.heap.size, 2, none⟩ (.slice u3.a u3.n u3.c)) w.heap.size (w.heap.size + 1) base ⟨a.g, a.la, L, a.p⟩ u3) := (S1.out.lay g3 o3 n3 o3.len LL.out); have N3 : Hid (u3.n = L.length) := o3.len; have cq : Chg (fun k => some k = (Value.slice (some ⟨g, 0, none⟩) a.l.length uc).ownBlock) wc w3 := Chg.of g3 (fun k e => e.symm); have y2 : w3.cell? ⟨w.heap.size, 2, none⟩ = some (.slice (some ⟨g, 0, none⟩) a.l.length uc) := cq.cell b2 (fun e => (S1.out.2.2.2.1 w.heap.size e.symm).1 rfl); have yf : w3.frozen? ⟨w.heap.size, 2, none⟩ = false := (cq.frozen (by have := S1.out.2.2.2.2.2.2.2.2.2.1; show w.heap.size < _; omega) (fun e => (S1.out.2.2.2.1 w.heap.size e.symm).1 rfl)).trans (S1.out.1.2 2); clear cq))
      obtain ⟨w4, hw4⟩ : ∃ w4, w4 = w3.setCell ⟨w.heap.size, 2, none⟩ (.slice u3.a u3.n u3.c) := ⟨_, rfl⟩
      rw [← hw4] at S3 ⊢
      have HW4 : Hid (w4 = _) := hw4
      have TH : Hid (w4.there w.heap.size 3 8) := fun j hj => ⟨by
        have := S3.out.row (3 + j) ((ac ⟨a.g, a.la, L, a.p⟩ u3)[3 + j]'(by simp; omega)) (List.getElem?_eq_getElem _)
        rw [Nat.zero_add] at this
        rw [this]; rfl, S3.out.1.2 _⟩
      have S5 : Hid (St FO w (w4.setCells w.heap.size 3 (pc zP)) w.heap.size (w.heap.size + 1) base ⟨a.g, a.la, L, zP⟩ u3) := S3.out.plan zP
      clear hw4 y2 yf S1 b2 CP p0 p4 SP g3
      go_wp2_with (first
        | (refine store_row (ty := 24) w.heap.size 3 (pa zP) rfl rfl TH.out (by kernel_rfl) (by simp [Value.oneCell']) ?_; intro w6 h6; rw [show (pa zP).toList = pc zP from rfl] at h6; rw [← h6] at S5; clear h6)
        | (refine load_a w.heap.size 0 ⟨a.g, a.la, L, zP⟩ u3 rfl S5.out.row ?_)
        | (refine store_row (ty := 26) (w.heap.size + 1) 0 (aa ⟨a.g, a.la, L, zP⟩ u3) rfl rfl (S5.out.2.1.there (by simp)) (by kernel_rfl) (by simp [Value.oneCell']) ?_; intro w9 h9; have H9 : Hid (_ = _) := h9; clear h9))
      obtain ⟨r9, o9, R9, c9⟩ := S5.out.done H9.out
      refine bodyPost_ret (v := av ⟨a.g, a.la, L, zP⟩ u3) ?_ rfl ?_
      · exact res_row1 (P := Try.prog) (fn := Try.f83) (p := 2) (ty := 26) rfl rfl r9 Try.underlying26 rfl (by kernel_rfl)
      · rw [E0.out]; exact ⟨_, rfl, o9, N3.out, fun k e => (S5.out.2.2.2.2.2.2.2.2.2.2.2 k e).imp (HFO2.out k) id, HFO.out _ c9⟩
end Go.Proofs.Ytlolhdijadhklaa
