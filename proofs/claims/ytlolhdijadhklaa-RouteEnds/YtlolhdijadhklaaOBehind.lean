/- A way behind a reply. -/
import Derived.Test.YtlolhdijadhklaaOTurned2
import Derived.Test.YtlolhdijadhklaaOEnded
import Derived.Test.YtlolhdijadhklaaOCopied
namespace Go.Proofs.Ytlolhdijadhklaa
open Go.RowKit Atl
set_option linter.unusedVariables false
set_option maxRecDepth 10000

theorem trn_by (r : Wy) (p : Rp) (w : World) (hq : Rat w p.m p.u) (hz : Szm p.m) (hk : r.nm.size ≤ 140737488351232) (hb : r.nd < 1000) (hc : 0 ≤ r.nd) : Calls Try.prog 99 #[rv r, qv p] w fun e w' => e = .returned (rv (trnW r p)) ∧ w.grownBy w' none := by
  unfold trnW
  cases h1 : (p.k == 2) with
  | true =>
    have e : p.k = 2 := by simpa using h1
    have h2 : (p.k == 3) = false := by rw [e]; rfl
    have h3 : (p.k == 1) = false := by rw [e]; rfl
    rw [h2, h3]
    cases hf : r.f with
    | false => exact trn_ask r p w hq hz hk hb hc h1 hf
    | true => exact trn_b r p w hq hz hk hb hc h1 h2 h3 hf
  | false =>
    cases h2 : (p.k == 3) with
    | true =>
      have e : p.k = 3 := by simpa using h2
      have h3 : (p.k == 1) = false := by rw [e]; rfl
      rw [h3]
      cases hf : r.f with
      | false => exact trn_c r p w hq hz hk hb hc h1 h2 h3 hf
      | true =>
        cases hm : chk p.m with
        | false => exact trn_d r p w hq hz hk hb hc h1 h2 h3 hf hm
        | true => exact trn_map r p w hq hz hk hb hc h1 h2 hf hm
    | false =>
      cases h3 : (p.k == 1) with
      | false => exact trn_i r p w hq hz hk hb hc h1 h2 h3
      | true =>
        cases h4 : (p.h != r.nd) with
        | false => exact trn_f r p w hq hz hk hb hc h1 h2 h3 h4
        | true =>
          cases h5 : wit p.h 1 r.n with
          | false => exact trn_g r p w hq hz hk hb hc h1 h2 h3 h4 h5
          | true => exact trn_hint r p w hq hz hk hb hc h1 h2 h3 h4 h5

def lessW (r : Wy) : Wy := ⟨r.n, r.nm, r.m, r.u, r.f, r.nd, r.lf - 1, r.d, r.er, r.tm, r.j⟩
def cntW (r : Wy) : Wy := if (r.lf - 1 == 0) = true then endW (lessW r) 181 0 nil3 else lessW r
theorem Cs.less {W : World} {Q : Nat} {r : Wy} (h : Cs W Q (rc r)) : Cs (W.setCell ⟨Q, 15, none⟩ (.int .i64 (r.lf - 1))) Q (rc (lessW r)) := by
  have := h.set 15 (.int .i64 (r.lf - 1)) (by simp)
  exact this
set_option maxRecDepth 100000 in
set_option maxHeartbeats 6400000 in
theorem cnt_by (r : Wy) (w : World) (h1 : 1 ≤ r.lf) (h2 : r.lf ≤ 64) : Calls Try.prog 98 #[rv r] w fun e w' => e = .returned (rv (cntW r)) ∧ w.grownBy w' none := by
  have EN : Hid (∀ W, Calls Try.prog 97 #[rv (lessW r), .agg #[.int .i64 181, .int .i64 0, .slice none 0 0]] W fun e w' => e = .returned (rv (endW (lessW r) 181 0 nil3)) ∧ W.grownBy w' none) := fun W => ended_by (lessW r) 181 0 nil3 W
  obtain ⟨W0, hW0⟩ : ∃ W0, W0 = (w.alloc (.cells (ra r) 60)).alloc (.cells zra 60) := ⟨_, rfl⟩
  obtain ⟨g0, s0, k0, k1⟩ := two_new w _ _ _ _ W0 hW0
  have G0 : Hid (w.grownBy W0 none) := g0
  have SZ : Hid (W0.heap.size = w.heap.size + 2) := s0
  have KR : Hid (Cs W0 w.heap.size (rc r)) := k0 _ (grown_refl _ _)
  have KZ : Hid (Cs W0 (w.heap.size + 1) zra.toList) := k1 _ (grown_refl _ _)
  have c15 : W0.cell? ⟨w.heap.size, 15, none⟩ = some (.int .i64 r.lf) := (k0 _ (grown_refl _ _)).1 15 _ rfl
  have f15 := (k0 _ (grown_refl _ _)).2 15
  have HW0 : Hid (W0 = _) := hW0
  clear g0 s0 k0 k1 hW0
  obtain ⟨R, hR⟩ : ∃ R, R = cntW r := ⟨_, rfl⟩
  rw [← hR]
  have HR : Hid (R = if (r.lf - 1 == 0) = true then endW (lessW r) 181 0 nil3 else lessW r) := hR
  clear hR
  go_enter Try.func98, Try.ntmps98
  go_upto_region 1 with fail
  rw [show (#[Value.int .i64 0, .string ⟨#[]⟩, .int .i64 0, .int .i64 0, .slice none 0 0, .int .i64 0, .int .i64 0, .int .i64 0, .int .i64 0, .int .i64 0, .int .i64 0, .int .i64 0, .string ⟨#[]⟩, .bool false, .int .i64 0, .int .i64 0, .bool false, .int .i64 0, .int .i64 0, .slice none 0 0] : Array Value) = zra from rfl, ← HW0.out]
  go_upto_region 2 with fail
  have K1 : Hid (Cs (W0.setCell ⟨w.heap.size, 15, none⟩ (.int .i64 (r.lf - 1))) w.heap.size (rc (lessW r))) := KR.out.less
  have G1 : Hid (W0.grownBy (W0.setCell ⟨w.heap.size, 15, none⟩ (.int .i64 (r.lf - 1))) (some w.heap.size)) := grown_set W0 ⟨w.heap.size, 15, none⟩ _
  have c15' : (W0.setCell ⟨w.heap.size, 15, none⟩ (.int .i64 (r.lf - 1))).cell? ⟨w.heap.size, 15, none⟩ = some (.int .i64 (r.lf - 1)) := K1.out.1 15 _ rfl
  clear c15 f15 KR h1 h2
  generalize W0.setCell ⟨w.heap.size, 15, none⟩ (.int .i64 (r.lf - 1)) = w1 at *
  have Z1 : Hid (Cs w1 (w.heap.size + 1) zra.toList) := KZ.out.but G1.out (by omega) (by have := SZ.out; omega)
  have GG : Hid (w.grownBy w1 none) := grown_more G0.out G1.out (fun k e => .inr (by injection e with e; omega))
  have S1 : Hid (w.heap.size + 2 ≤ w1.heap.size) := by have h1 := G1.out.size; have h2 := SZ.out; show _ ≤ _; omega
  cases hl : (r.lf - 1 == 0) with
  | true =>
    have e0 : r.lf - 1 = 0 := by simpa using hl
    have E0 : Hid (r.lf - 1 = 0) := e0
    clear e0
    have eR : Hid (R = endW (lessW r) 181 0 nil3) := by have := HR.out; rwa [hl, if_pos rfl] at this
    go_wp2_with (first
      | (refine load_r rfl rfl w.heap.size 0 (lessW r) rfl K1.out.1 ?_)
      | (go_at_call 97; (with_reducible refine (EN.out _).mono ?_); rintro e w5 ⟨rfl, g5⟩; have G5 : Hid (w1.grownBy w5 none) := g5; clear g5)
      | (refine store_row (ty := 60) (w.heap.size + 1) 0 (ra (endW (lessW r) 181 0 nil3)) rfl rfl ((Z1.out.grown G5.out (by have := S1.out; omega)).there (by simp)) (by kernel_rfl) (by simp [Value.oneCell']) ?_; intro w9 h9; have H9 : Hid (w9 = w5.setCells (w.heap.size + 1) 0 (rc (endW (lessW r) 181 0 nil3))) := h9; clear h9))
    refine bodyPost_ret (v := rv (endW (lessW r) 181 0 nil3)) ?_ rfl ?_
    · exact res_row1 (P := Try.prog) (fn := Try.f98) (p := 2) (ty := 60) rfl rfl (box_set (cs := rc (endW (lessW r) 181 0 nil3)) (Z1.out.grown G5.out (by have := S1.out; omega)) rfl H9.out) Try.underlying60 rfl (by kernel_rfl)
    · exact ⟨by rw [eR.out], box_grown (grown_tr GG.out G5.out) (by omega) H9.out⟩
  | false =>
    have eR : Hid (R = lessW r) := by have := HR.out; rwa [hl, if_neg (by simp)] at this
    go_wp2_with (first
      | (refine load_r rfl rfl w.heap.size 0 (lessW r) rfl K1.out.1 ?_)
      | (refine store_row (ty := 60) (w.heap.size + 1) 0 (ra (lessW r)) rfl rfl (Z1.out.there (by simp)) (by kernel_rfl) (by simp [Value.oneCell']) ?_; intro w9 h9; have H9 : Hid (w9 = w1.setCells (w.heap.size + 1) 0 (rc (lessW r))) := h9; clear h9))
    refine bodyPost_ret (v := rv (lessW r)) ?_ rfl ?_
    · exact res_row1 (P := Try.prog) (fn := Try.f98) (p := 2) (ty := 60) rfl rfl (box_set (cs := rc (lessW r)) Z1.out rfl H9.out) Try.underlying60 rfl (by kernel_rfl)
    · exact ⟨by rw [eR.out], box_grown GG.out (by omega) H9.out⟩

def behW (r : Wy) (p : Rp) : Wy := if endB r p = true then endW r p.er p.tm p.j else cntW (trnW r p)
theorem way_parts {r : Wy} (h : way r = true) : 1 ≤ r.nd ∧ r.nd ≤ r.n ∧ 1 ≤ r.n ∧ r.n ≤ 7 ∧ 1 ≤ r.lf ∧ r.lf ≤ 64 ∧ r.d = false ∧ rmap r.m = true ∧ (r.f || !emp r.m && named r.nm) = true := by
  unfold way rchk rnum goes wit at h
  simp only [Bool.and_eq_true, decide_eq_true_eq, Bool.or_eq_true, Bool.not_eq_true'] at h
  obtain ⟨⟨⟨⟨⟨⟨h1, h2⟩, h3, h4⟩, h5, h6⟩, h7⟩, h8⟩, h9⟩ := h
  have h10 : (0 < r.lf) ∧ (r.f = true ∨ emp r.m = false ∧ named r.nm = true) := by
    rcases h8 with h8 | h8
    · rw [h8] at h9; cases h9
    · exact h8
  refine ⟨h3, h4, h1, h2, by omega, h6, h9, h7, ?_⟩
  simp only [Bool.or_eq_true, Bool.and_eq_true, Bool.not_eq_true']
  exact h10.2
theorem trn_lf (r : Wy) (p : Rp) : (trnW r p).lf = r.lf := by
  unfold trnW
  split
  · rfl
  · split
    · rfl
    · split <;> rfl
set_option maxRecDepth 100000 in
set_option maxHeartbeats 6400000 in
theorem beh_by (r : Wy) (p : Rp) (w : World) (hw : way r = true) (hq : Rat w p.m p.u) (hz : Szm p.m) (hk : r.nm.size ≤ 140737488351232) : Calls Try.prog 66 #[rv r, qv p] w fun e w' => e = .returned (rv (behW r p)) ∧ w.grownBy w' none := by
  obtain ⟨p1, p2, p3, p4, p5, p6, -, -, -⟩ := way_parts hw
  have ED : Hid (∀ W, _) := fun W => ends_by r p W
  have EN : Hid (∀ W, _) := fun W => ended_by r p.er p.tm p.j W
  have TR : Hid (∀ W, w.grownBy W none → _) := fun W g => trn_by r p W (hq.grown g) hz hk (by omega) (by omega)
  have CN : Hid (∀ W, _) := fun W => cnt_by (trnW r p) W (by rw [trn_lf]; exact p5) (by rw [trn_lf]; exact p6)
  obtain ⟨W0, hW0⟩ : ∃ W0, W0 = ((w.alloc (.cells (ra r) 60)).alloc (.cells (qa p) 66)).alloc (.cells zra 60) := ⟨_, rfl⟩
  obtain ⟨g0, s0, k0, k1, k2⟩ := three_new w _ _ _ _ _ _ W0 hW0
  have G0 : Hid (w.grownBy W0 none) := g0
  have SZ : Hid (W0.heap.size = w.heap.size + 3) := s0
  have KR : Hid (∀ W, W0.grownBy W none → W.rangeAt w.heap.size 0 (rc r)) := fun W g => (k0 W g).1
  have KQ : Hid (∀ W, W0.grownBy W none → W.rangeAt (w.heap.size + 1) 0 (qc p)) := fun W g => (k1 W g).1
  have KZ : Hid (∀ W, W0.grownBy W none → Cs W (w.heap.size + 2) zra.toList) := k2
  have HW0 : Hid (W0 = _) := hW0
  clear g0 s0 k0 k1 k2 hW0 p1 p2 p3 p4 p5 p6 hw hq hz hk
  unfold behW
  generalize endB r p = eb at *
  generalize cntW (trnW r p) = cr at *
  generalize trnW r p = tr at *
  generalize endW r p.er p.tm p.j = er at *
  cases eb with
  | true =>
    rw [if_pos rfl]
    go_enter Try.func66, Try.ntmps66
    go_upto_region 1 with fail
    rw [show (#[Value.int .i64 0, .string ⟨#[]⟩, .int .i64 0, .int .i64 0, .slice none 0 0, .int .i64 0, .int .i64 0, .int .i64 0, .int .i64 0, .int .i64 0, .int .i64 0, .int .i64 0, .string ⟨#[]⟩, .bool false, .int .i64 0, .int .i64 0, .bool false, .int .i64 0, .int .i64 0, .slice none 0 0] : Array Value) = zra from rfl, ← HW0.out]
    go_wp2_with (first
      | (refine load_r rfl rfl w.heap.size 0 r rfl (KR.out W0 (grown_refl _ _)) ?_)
      | (refine load_q rfl rfl (w.heap.size + 1) 0 p rfl (KQ.out W0 (grown_refl _ _)) ?_)
      | (go_at_call 96; (with_reducible refine (ED.out _).mono ?_); rintro e w3 ⟨rfl, g3⟩; have G3 : Hid (W0.grownBy w3 none) := g3; clear g3)
      | (refine load_r rfl rfl w.heap.size 0 r rfl (KR.out w3 G3.out) ?_)
      | (refine load_e rfl rfl (w.heap.size + 1) 2 p.er p.tm p.j rfl (qres_in (KQ.out w3 G3.out)) ?_)
      | (go_at_call 97; (with_reducible refine (EN.out _).mono ?_); rintro e w5 ⟨rfl, g5⟩; have G5 : Hid (W0.grownBy w5 none) := grown_tr G3.out g5; clear g5)
      | (refine store_row (ty := 60) (w.heap.size + 2) 0 (ra er) rfl rfl ((KZ.out w5 G5.out).there (by simp)) (by kernel_rfl) (by simp [Value.oneCell']) ?_; intro w9 h9; have H9 : Hid (w9 = w5.setCells (w.heap.size + 2) 0 (rc er)) := h9; clear h9))
    refine bodyPost_ret (v := rv er) ?_ rfl ?_
    · exact res_row1 (P := Try.prog) (fn := Try.f66) (p := 4) (ty := 60) rfl rfl (box_set (cs := rc er) (KZ.out w5 G5.out) rfl H9.out) Try.underlying60 rfl (by kernel_rfl)
    · exact ⟨rfl, box_grown (grown_tr G0.out G5.out) (by omega) H9.out⟩
  | false =>
    rw [if_neg (by simp)]
    go_enter Try.func66, Try.ntmps66
    go_upto_region 1 with fail
    rw [show (#[Value.int .i64 0, .string ⟨#[]⟩, .int .i64 0, .int .i64 0, .slice none 0 0, .int .i64 0, .int .i64 0, .int .i64 0, .int .i64 0, .int .i64 0, .int .i64 0, .int .i64 0, .string ⟨#[]⟩, .bool false, .int .i64 0, .int .i64 0, .bool false, .int .i64 0, .int .i64 0, .slice none 0 0] : Array Value) = zra from rfl, ← HW0.out]
    go_wp2_with (first
      | (refine load_r rfl rfl w.heap.size 0 r rfl (KR.out W0 (grown_refl _ _)) ?_)
      | (refine load_q rfl rfl (w.heap.size + 1) 0 p rfl (KQ.out W0 (grown_refl _ _)) ?_)
      | (go_at_call 96; (with_reducible refine (ED.out _).mono ?_); rintro e w3 ⟨rfl, g3⟩; have G3 : Hid (W0.grownBy w3 none) := g3; clear g3)
      | (refine load_r rfl rfl w.heap.size 0 r rfl (KR.out w3 G3.out) ?_)
      | (refine load_q rfl rfl (w.heap.size + 1) 0 p rfl (KQ.out w3 G3.out) ?_)
      | (go_at_call 99; (with_reducible refine (TR.out _ (grown_tr G0.out G3.out)).mono ?_); rintro e w4 ⟨rfl, g4⟩; have G4 : Hid (W0.grownBy w4 none) := grown_tr G3.out g4; clear g4)
      | (go_at_call 98; (with_reducible refine (CN.out _).mono ?_); rintro e w5 ⟨rfl, g5⟩; have G5 : Hid (W0.grownBy w5 none) := grown_tr G4.out g5; clear g5)
      | (refine store_row (ty := 60) (w.heap.size + 2) 0 (ra cr) rfl rfl ((KZ.out w5 G5.out).there (by simp)) (by kernel_rfl) (by simp [Value.oneCell']) ?_; intro w9 h9; have H9 : Hid (w9 = w5.setCells (w.heap.size + 2) 0 (rc cr)) := h9; clear h9))
    refine bodyPost_ret (v := rv cr) ?_ rfl ?_
    · exact res_row1 (P := Try.prog) (fn := Try.f66) (p := 4) (ty := 60) rfl rfl (box_set (cs := rc cr) (KZ.out w5 G5.out) rfl H9.out) Try.underlying60 rfl (by kernel_rfl)
    · exact ⟨rfl, box_grown (grown_tr G0.out G5.out) (by omega) H9.out⟩
end Go.Proofs.Ytlolhdijadhklaa
