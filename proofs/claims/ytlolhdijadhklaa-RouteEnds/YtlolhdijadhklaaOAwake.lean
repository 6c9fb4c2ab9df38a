/- awake: the example's answers. -/
import Derived.Test.YtlolhdijadhklaaOHeard
import Derived.Test.YtlolhdijadhklaaAAwM
namespace Go.Proofs.Ytlolhdijadhklaa
open Go.RowKit Atl
set_option linter.unusedVariables false
set_option maxRecDepth 10000

def nA : ByteArray := ⟨#[97]⟩
def nB : ByteArray := ⟨#[65]⟩
theorem find_A : findS mA nA = s11 ∧ named nA = true := by
  have hn : named nA = true := by decide
  have hf : fnd mA.l nA = 0 := by
    unfold fnd
    rw [show mA.l = [s11] from rfl]
    have : ends s11 nA = true := by
      unfold ends
      rw [show s11.up = em from rfl, em_list]
      rfl
    simp [List.findIdx_cons, this]
  refine ⟨?_, hn⟩
  unfold findS findB
  rw [hn, chk_is.2 rgt_A, hf]
  rfl
theorem szm_A : Szm mA := by
  refine ⟨fun s hs => ?_, by decide⟩
  simp [mA] at hs
  subst hs
  exact ⟨by decide, by decide⟩
theorem szm_Z : Szm zA := ⟨fun s hs => by simp [zA] at hs, by decide⟩
theorem chk_Z : chk zA = false := rfl
theorem heard_nil (r : Wy) (p : Rp) (w : World) (h : Rdw w r) (hq : Rat w p.m p.u) (hz : Szm p.m) (hj : (hrdW r p).j = nil3) : Calls Try.prog 33 #[rv r, qv p] w fun e w' => ∃ u : S3, e = .returned (rv (setUJ (hrdW r p) u nil3)) ∧ w.grownBy w' none ∧ ∀ W, Chg (fun k => k < w.heap.size) w' W → Rat W (hrdW r p).m u := by
  refine (heard_by (fun _ j => j = nil3) r p w h hq hz (fun W _ => by rw [hj]; exact copj_nil W)).mono ?_
  rintro e w' ⟨u, j, rfl, g, hc⟩
  have := (hc w' (Chg.of (grown_refl _ none) (by simp))).2
  subst this
  exact ⟨u, rfl, g, fun W hW => (hc W hW).1⟩
theorem hrd_of {r : Wy} {p : Rp} (hw : way r = true) (he : endB r p = false) : hrdW r p = cntW (trnW r p) := by
  unfold hrdW behW
  rw [if_pos hw, he, if_neg (by simp)]
theorem hrd_end {r : Wy} {p : Rp} (hw : way r = true) (he : endB r p = true) : hrdW r p = endW r p.er p.tm p.j := by
  unfold hrdW behW
  rw [if_pos hw, he, if_pos rfl]
theorem trn_map' {r : Wy} {p : Rp} (h : p.k = 3) (hf : r.f = true) (hc : chk p.m = true) : trnW r p = mapW r p := by
  unfold trnW
  rw [h, hf, hc]
  rfl
theorem trn_ask' {r : Wy} {p : Rp} (h : p.k = 2) (hf : r.f = false) : trnW r p = askW r := by
  unfold trnW
  rw [h, hf]
  rfl
theorem trn_red0 {r : Wy} {p : Rp} (h : p.k = 1) (h0 : p.h = 0) : trnW r p = setN r (nxt r) := by
  unfold trnW wit
  rw [h, h0]
  simp
def r0 : Wy := noW 3 nA 5
def p1 : Rp := ⟨1, 3, 0, 0, nil3, zA, nil3⟩
def s0 : Wy := ⟨3, nA, zA, nil3, true, 3, 4, false, 0, 0, nil3⟩
theorem hrd_1 : hrdW r0 p1 = s0 := rfl
def t0 (u : S3) : Wy := ⟨3, nA, mA, u, false, 1, 3, false, 0, 0, nil3⟩
theorem hrd_2 (u' u : S3) : hrdW (setUJ s0 u' nil3) ⟨3, 0, 0, 0, nil3, mA, u⟩ = t0 u := by
  have h1 : way (setUJ s0 u' nil3) = true := rfl
  rw [hrd_of h1 rfl, trn_map' rfl rfl (chk_is.2 rgt_A)]
  unfold mapW
  rw [show (setUJ s0 u' nil3).nm = nA from rfl, find_A.2]
  rfl
theorem whr_t (u : S3) : whr (t0 u) = (1, 1, 1, 1) := by
  have h1 : way (t0 u) = true := by
    unfold way rchk rnum rmap goes wit t0
    rw [chk_is.2 rgt_A, find_A.2]
    simp
    decide
  unfold whr
  rw [h1, if_neg (by simp), show (t0 u).f = false from rfl, if_neg (by simp), show (t0 u).m = mA from rfl, show (t0 u).nm = nA from rfl, find_A.1]
  rfl
set_option maxRecDepth 100000 in
set_option maxHeartbeats 6400000 in
theorem oawake_any (w : World) : Calls Try.prog 30 #[] w fun e w' => e = .returned (.bool true) ∧ w.grownBy w' none := by
  have NW : Hid (∀ W, Calls Try.prog 12 #[.int .i64 2] W fun e w' => Res W mA 0 e w') := fun W => by
    have := new_any 2 W
    rwa [new_A.1, new_A.2] at this
  have BA : Hid (∀ W, Calls Try.prog 36 #[.int .i64 3, .string ⟨#[97]⟩, .agg #[.int .i64 0, .int .i64 0, .slice none 0 0, .int .i64 0, .int .i64 0, .int .i64 0, .int .i64 0, .int .i64 0, .int .i64 0, .int .i64 0, .string ⟨#[]⟩], .int .i64 5] W fun e w' => e = .returned (.tuple #[rv r0, .int .i64 0]) ∧ W.grownBy w' none) := fun W => begin_no 3 nA zA nil3 5 W (rat_nil W) szm_Z (by decide) (by unfold begOk; rw [find_A.2]; decide) chk_Z
  have BB : Hid (∀ W, Calls Try.prog 36 #[.int .i64 3, .string ⟨#[65]⟩, .agg #[.int .i64 0, .int .i64 0, .slice none 0 0, .int .i64 0, .int .i64 0, .int .i64 0, .int .i64 0, .int .i64 0, .int .i64 0, .int .i64 0, .string ⟨#[]⟩], .int .i64 5] W fun e w' => e = .returned (.tuple #[rv zW, .int .i64 1]) ∧ W.grownBy w' none) := fun W => begin_bad 3 nB zA nil3 5 W (by decide) (by decide)
  have H1 : Hid (∀ W, Calls Try.prog 33 #[rv r0, .agg #[.int .i64 1, .int .i64 3, .int .i64 0, .int .i64 0, .slice none 0 0, .int .i64 0, .int .i64 0, .slice none 0 0, .int .i64 0, .int .i64 0, .int .i64 0, .int .i64 0, .int .i64 0, .int .i64 0, .int .i64 0, .string ⟨#[]⟩]] W fun e w' => ∃ u : S3, e = .returned (rv (setUJ s0 u nil3)) ∧ W.grownBy w' none ∧ ∀ V, Chg (fun k => k < W.heap.size) w' V → Rat V zA u) := fun W => by
    have := heard_nil r0 p1 W ⟨rat_nil W, szm_Z, by decide⟩ (rat_nil W) szm_Z (by rw [hrd_1]; rfl)
    rw [hrd_1] at this
    exact this
  have H2 : Hid (∀ W u' u, Rat W zA u' → Rat W mA u → Calls Try.prog 33 #[rv (setUJ s0 u' nil3), .agg #[.int .i64 3, .int .i64 0, .int .i64 0, .int .i64 0, .slice none 0 0, .int .i64 mA.g, .int .i64 mA.la, .slice u.a u.n u.c, .int .i64 mA.p.k, .int .i64 mA.p.ph, .int .i64 mA.p.sh, .int .i64 mA.p.ot, .int .i64 mA.p.gp, .int .i64 mA.p.pa, .int .i64 mA.p.ep, .string mA.p.key]] W fun e w' => ∃ v : S3, e = .returned (rv (setUJ (t0 u) v nil3)) ∧ W.grownBy w' none ∧ ∀ V, Chg (fun k => k < W.heap.size) w' V → Rat V mA v) := fun W u' u h1 h2 => by
    have := heard_nil (setUJ s0 u' nil3) ⟨3, 0, 0, 0, nil3, mA, u⟩ W ⟨h1, szm_Z, by show nA.size ≤ _; decide⟩ h2 szm_A (by rw [hrd_2]; rfl)
    rw [hrd_2] at this
    exact this
  have WA : Hid (∀ W u v, Rat W mA v → Calls Try.prog 34 #[rv (setUJ (t0 u) v nil3)] W fun e w' => e = .returned (.tuple #[.int .i64 1, .int .i64 1, .int .i64 1, .int .i64 1]) ∧ W.grownBy w' none) := fun W u v r => by
    have := where_any (t0 v) W ⟨r, szm_A, by show nA.size ≤ _; decide⟩
    rwa [whr_t] at this
  go_enter Try.func30, Try.ntmps30
  go_upto_region 2 with (first
    | (go_at_call 36; (with_reducible refine (BA.out _).mono ?_); rintro e w1 ⟨rfl, g1⟩)
    | (refine store_row (ty := 60) w1.heap.size 0 (ra r0) rfl rfl (there_new (z := zra) (t := 60) rfl) (by kernel_rfl) (by simp [Value.oneCell']) ?_; intro w2 h2; have H2' : Hid (w2 = (w1.alloc (.cells zra 60)).setCells w1.heap.size 0 (rc r0)) := h2; clear h2))
  obtain ⟨g2, s2, c2⟩ := new_row (w := w1) (z := zra) (cs := rc r0) (t := 60) rfl H2'.out
  have G2 : Hid (w.grownBy w2 none) := grown_tr g1 g2
  have C1 : Hid (∀ W, w2.grownBy W none → Cs W w1.heap.size (rc r0)) := c2
  clear g1 g2 s2 c2 H2' BA
  generalize w1.heap.size = q1 at *
  go_upto_region 3 with (go_at_call 12; (with_reducible refine (NW.out _).mono ?_); rintro e w3 ⟨u1, rfl, r1, g3, -⟩)
  have R3 : Hid (Rat (w3.alloc (.cells (aa mA u1) 26)) mA u1) := r1.grown (World.grownBy_alloc _ _ none)
  have X3 : Hid (∀ W, (w3.alloc (.cells (aa mA u1) 26)).grownBy W none → W.rangeAt w3.heap.size 0 (ac mA u1)) := fun W g => (cs_new g).1
  have G3 : Hid (w2.grownBy (w3.alloc (.cells (aa mA u1) 26)) none) := grown_alloc g3 _
  clear NW r1 g3
  generalize w3.alloc (.cells (aa mA u1) 26) = v3 at *
  generalize w3.heap.size = q3 at *
  go_upto_region 4 with (first
    | (refine load_r rfl rfl q1 0 r0 rfl (C1.out v3 G3.out).1 ?_)
    | (go_at_call 33; (with_reducible refine (H1.out _).mono ?_); rintro e w4 ⟨u4, rfl, g4, h4⟩)
    | (refine store_row (ty := 60) w4.heap.size 0 (ra (setUJ s0 u4 nil3)) rfl rfl (there_new (z := zra) (t := 60) rfl) (by kernel_rfl) (by simp [Value.oneCell']) ?_; intro w5 h5; have H5 : Hid (w5 = (w4.alloc (.cells zra 60)).setCells w4.heap.size 0 (rc (setUJ s0 u4 nil3))) := h5; clear h5))
  obtain ⟨g5, s5, c5⟩ := new_row (w := w4) (z := zra) (cs := rc (setUJ s0 u4 nil3)) (t := 60) rfl H5.out
  have G5 : Hid (v3.grownBy w5 none) := grown_tr g4 g5
  have R5 : Hid (Rat w5 zA u4) := (h4 w4 (Chg.of (grown_refl _ none) (by simp))).grown g5
  have C5 : Hid (∀ W, w5.grownBy W none → Cs W w4.heap.size (rc (setUJ s0 u4 nil3))) := c5
  clear g4 h4 g5 s5 c5 H5 H1
  generalize w4.heap.size = q5 at *
  go_upto_region 5 with (first
    | (refine load_r rfl rfl q5 0 (setUJ s0 u4 nil3) rfl (C5.out w5 (grown_refl _ _)).1 ?_)
    | (refine ld_a rfl rfl q3 0 mA u1 rfl (X3.out w5 G5.out) ?_)
    | (go_at_call 33; (with_reducible refine (H2.out _ _ _ R5.out (R3.out.grown G5.out)).mono ?_); rintro e w6 ⟨u6, rfl, g6, h6⟩)
    | (refine store_row (ty := 60) w6.heap.size 0 (ra (setUJ (t0 u1) u6 nil3)) rfl rfl (there_new (z := zra) (t := 60) rfl) (by kernel_rfl) (by simp [Value.oneCell']) ?_; intro w7 h7; have H7 : Hid (w7 = (w6.alloc (.cells zra 60)).setCells w6.heap.size 0 (rc (setUJ (t0 u1) u6 nil3))) := h7; clear h7))
  obtain ⟨g7, s7, c7⟩ := new_row (w := w6) (z := zra) (cs := rc (setUJ (t0 u1) u6 nil3)) (t := 60) rfl H7.out
  have G7 : Hid (w5.grownBy w7 none) := grown_tr g6 g7
  have R7 : Hid (Rat w7 mA u6) := (h6 w6 (Chg.of (grown_refl _ none) (by simp))).grown g7
  have C7 : Hid (∀ W, w7.grownBy W none → Cs W w6.heap.size (rc (setUJ (t0 u1) u6 nil3))) := c7
  clear g6 h6 g7 s7 c7 H7 H2 R5 R3
  generalize w6.heap.size = q7 at *
  go_upto_region 7 with (first
    | (refine load_r rfl rfl q7 0 (setUJ (t0 u1) u6 nil3) rfl (C7.out w7 (grown_refl _ _)).1 ?_)
    | (go_at_call 34; (with_reducible refine (WA.out _ _ _ R7.out).mono ?_); rintro e w8 ⟨rfl, g8⟩)
    | (go_at_call 36; (with_reducible refine (BB.out _).mono ?_); rintro e w9 ⟨rfl, g9⟩)
    | (refine store_row (ty := 60) w9.heap.size 0 (ra zW) rfl rfl (there_new (z := zra) (t := 60) rfl) (by kernel_rfl) (by simp [Value.oneCell']) ?_; intro wa ha; have HA : Hid (wa = (w9.alloc (.cells zra 60)).setCells w9.heap.size 0 (rc zW)) := ha; clear ha))
  obtain ⟨ga, sa', ca⟩ := new_row (w := w9) (z := zra) (cs := rc zW) (t := 60) rfl HA.out
  have GA : Hid (w7.grownBy wa none) := grown_tr g8 (grown_tr g9 ga)
  have GF : Hid (w.grownBy wa none) := grown_tr G2.out (grown_tr G3.out (grown_tr G5.out (grown_tr G7.out GA.out)))
  have x13 : wa.cell? ⟨q1, 13, none⟩ = some (.bool true) := (C1.out wa (grown_tr G3.out (grown_tr G5.out (grown_tr G7.out GA.out)))).1 13 _ rfl
  have y14 : wa.cell? ⟨q5, 14, none⟩ = some (.int .i64 3) := (C5.out wa (grown_tr G7.out GA.out)).1 14 _ rfl
  have y15 : wa.cell? ⟨q5, 15, none⟩ = some (.int .i64 4) := (C5.out wa (grown_tr G7.out GA.out)).1 15 _ rfl
  clear ga sa' ca HA g8 g9 WA BB
  go_wp2_with fail
  go_ret
  exact ⟨rfl, GF.out⟩
end Go.Proofs.Ytlolhdijadhklaa
