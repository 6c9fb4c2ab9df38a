/- Heard. -/
import Derived.Test.YtlolhdijadhklaaOBehind
namespace Go.Proofs.Ytlolhdijadhklaa
open Go.RowKit Atl
set_option linter.unusedVariables false
set_option maxRecDepth 10000

def hrdW (r : Wy) (p : Rp) : Wy := if way r = true then behW r p else r
theorem trn_rd {w : World} {r : Wy} {p : Rp} (h : Rdw w r) (hq : Rat w p.m p.u) (hz : Szm p.m) : Rdw w (trnW r p) := by
  unfold trnW
  split
  · exact ⟨h.m, h.z, h.k⟩
  · split
    · exact ⟨hq, hz, h.k⟩
    · split <;> exact ⟨h.m, h.z, h.k⟩
theorem beh_rd {w : World} {r : Wy} {p : Rp} (h : Rdw w r) (hq : Rat w p.m p.u) (hz : Szm p.m) : Rdw w (behW r p) := by
  have t := trn_rd h hq hz
  unfold behW
  split
  · exact ⟨h.m, h.z, h.k⟩
  · unfold cntW
    split <;> exact ⟨t.m, t.z, t.k⟩
set_option maxRecDepth 100000 in
set_option maxHeartbeats 6400000 in
theorem heard_by (J : World → S3 → Prop) (r : Wy) (p : Rp) (w : World) (h : Rdw w r) (hq : Rat w p.m p.u) (hz : Szm p.m) (hj : ∀ W, w.grownBy W none → CopJ J W (hrdW r p).j) : Calls Try.prog 33 #[rv r, qv p] w fun e w' => ∃ u j : S3, e = .returned (rv (setUJ (hrdW r p) u j)) ∧ w.grownBy w' none ∧ ∀ W, Chg (fun k => k < w.heap.size) w' W → Rat W (hrdW r p).m u ∧ J W j := by
  have WY : Hid (∀ W, w.grownBy W none → _) := fun W g => way_any r W (h.grown g)
  have RD : Hid (Rdw w (hrdW r p)) := by
    unfold hrdW
    show Rdw _ _
    split
    · exact beh_rd h hq hz
    · exact h
  have CO : Hid (∀ W, w.grownBy W none → _) := fun W g => copied_by J (hrdW r p) W (RD.out.grown g) (fun V k => hj V (grown_tr g k))
  have BH : Hid (way r = true → ∀ W, w.grownBy W none → _) := fun hw W g => beh_by r p W hw (hq.grown g) hz h.k
  obtain ⟨W0, hW0⟩ : ∃ W0, W0 = ((w.alloc (.cells (ra r) 60)).alloc (.cells (qa p) 66)).alloc (.cells zra 60) := ⟨_, rfl⟩
  obtain ⟨g0, s0, k0, k1, k2⟩ := three_new w _ _ _ _ _ _ W0 hW0
  have G0 : Hid (w.grownBy W0 none) := g0
  have SZ : Hid (W0.heap.size = w.heap.size + 3) := s0
  have KR : Hid (∀ W, W0.grownBy W none → Cs W w.heap.size (rc r)) := k0
  have KQ : Hid (∀ W, W0.grownBy W none → W.rangeAt (w.heap.size + 1) 0 (qc p)) := fun W g => (k1 W g).1
  have KZ : Hid (∀ W, W0.grownBy W none → Cs W (w.heap.size + 2) zra.toList) := k2
  have HW0 : Hid (W0 = _) := hW0
  clear g0 s0 k0 k1 k2 hW0 RD h hq hz hj
  have HB : Hid (way r = true → hrdW r p = behW r p) := fun hw => by unfold hrdW; rw [if_pos hw]
  have HN : Hid (way r = false → hrdW r p = r) := fun hw => by unfold hrdW; rw [hw, if_neg (by simp)]
  generalize hrdW r p = R at *
  cases hw : way r with
  | true =>
    have BK := BH.out hw
    have eB := HB.out hw
    rw [← eB] at BK
    have BK : Hid (∀ W, w.grownBy W none → Calls Try.prog 66 #[rv r, qv p] W fun e w' => e = .returned (rv R) ∧ W.grownBy w' none) := BK
    rw [hw] at WY
    clear hw eB BH HB HN
    go_enter Try.func33, Try.ntmps33
    go_upto_region 1 with fail
    rw [show (#[Value.int .i64 0, .string ⟨#[]⟩, .int .i64 0, .int .i64 0, .slice none 0 0, .int .i64 0, .int .i64 0, .int .i64 0, .int .i64 0, .int .i64 0, .int .i64 0, .int .i64 0, .string ⟨#[]⟩, .bool false, .int .i64 0, .int .i64 0, .bool false, .int .i64 0, .int .i64 0, .slice none 0 0] : Array Value) = zra from rfl, ← HW0.out]
    go_upto_region 3 with (first
      | (refine load_r rfl rfl w.heap.size 0 r rfl (KR.out W0 (grown_refl _ _)).1 ?_)
      | (go_at_call 65; (with_reducible refine (WY.out _ G0.out).mono ?_); rintro e w3 ⟨rfl, g3⟩; have G3 : Hid (W0.grownBy w3 none) := g3; clear g3)
      | (refine load_r rfl rfl w.heap.size 0 r rfl (KR.out w3 G3.out).1 ?_)
      | (refine load_q rfl rfl (w.heap.size + 1) 0 p rfl (KQ.out w3 G3.out) ?_)
      | (go_at_call 66; (with_reducible refine (BK.out _ (grown_tr G0.out G3.out)).mono ?_); rintro e w4 ⟨rfl, g4⟩; have G4 : Hid (W0.grownBy w4 none) := grown_tr G3.out g4; clear g4)
      | (refine store_row (ty := 60) w.heap.size 0 (ra R) rfl rfl ((KR.out w4 G4.out).there (by simp)) (by kernel_rfl) (by simp [Value.oneCell']) ?_; intro w5 h5; have H5 : Hid (w5 = w4.setCells w.heap.size 0 (rc R)) := h5; clear h5))
    have K5 : Hid (Cs w5 w.heap.size (rc R)) := by rw [H5.out]; exact (KR.out w4 G4.out).sets (rc R) rfl
    have g45 : w4.grownBy w5 (some w.heap.size) := by rw [H5.out]; exact grown_setCells _ _ _ _
    have Z5 : Hid (Cs w5 (w.heap.size + 2) zra.toList) := (KZ.out w4 G4.out).but g45 (by omega) (by have h1 := G4.out.size; have h2 := SZ.out; omega)
    have G5 : Hid (w.grownBy w5 none) := grown_more (grown_tr G0.out G4.out) g45 (fun k e => .inr (by injection e with e; omega))
    have S5 : Hid (w.heap.size + 3 ≤ w5.heap.size) := by have h1 := G4.out.size; have h2 := SZ.out; have h3 := g45.size; show _ ≤ _; omega
    clear g45 H5 BK WY
    go_wp2_with (first
      | (refine load_r rfl rfl w.heap.size 0 R rfl K5.out.1 ?_)
      | (go_at_call 67; (with_reducible refine (CO.out _ G5.out).mono ?_); rintro e w6 ⟨u', j', rfl, g6, h6⟩; have G6 : Hid (w5.grownBy w6 none) := g6; have H6 : Hid (∀ W, _ → _) := h6; clear g6 h6)
      | (refine store_row (ty := 60) (w.heap.size + 2) 0 (ra (setUJ R u' j')) rfl rfl ((Z5.out.grown G6.out (by have := S5.out; omega)).there (by simp)) (by kernel_rfl) (by simp [Value.oneCell']) ?_; intro w9 h9; have H9 : Hid (w9 = w6.setCells (w.heap.size + 2) 0 (rc (setUJ R u' j'))) := h9; clear h9))
    refine bodyPost_ret (v := rv (setUJ R u' j')) ?_ rfl ?_
    · exact res_row1 (P := Try.prog) (fn := Try.f33) (p := 4) (ty := 60) rfl rfl (box_set (cs := rc (setUJ R u' j')) (Z5.out.grown G6.out (by have := S5.out; omega)) rfl H9.out) Try.underlying60 rfl (by kernel_rfl)
    · have g69 : w6.grownBy w9 (some (w.heap.size + 2)) := by rw [H9.out]; exact grown_setCells _ _ _ _
      have s5 := S5.out
      refine ⟨u', j', rfl, box_grown (grown_tr G5.out G6.out) (by omega) H9.out, fun W hW => H6.out W ?_⟩
      exact (Chg.of (F := fun k => k < w5.heap.size) g69 (fun k e => by injection e with e; omega)).trans (hW.wide (G := fun k => k < w5.heap.size) (fun k hk => by omega)) (fun k hk => .inl hk)
  | false =>
    have eB := HN.out hw
    subst eB
    rw [hw] at WY
    clear hw BH HB HN
    go_enter Try.func33, Try.ntmps33
    go_upto_region 1 with fail
    rw [show (#[Value.int .i64 0, .string ⟨#[]⟩, .int .i64 0, .int .i64 0, .slice none 0 0, .int .i64 0, .int .i64 0, .int .i64 0, .int .i64 0, .int .i64 0, .int .i64 0, .int .i64 0, .string ⟨#[]⟩, .bool false, .int .i64 0, .int .i64 0, .bool false, .int .i64 0, .int .i64 0, .slice none 0 0] : Array Value) = zra from rfl, ← HW0.out]
    go_upto_region 3 with (first
      | (refine load_r rfl rfl w.heap.size 0 R rfl (KR.out W0 (grown_refl _ _)).1 ?_)
      | (go_at_call 65; (with_reducible refine (WY.out _ G0.out).mono ?_); rintro e w5 ⟨rfl, g3⟩; have G3 : Hid (W0.grownBy w5 none) := g3; clear g3))
    have K5 : Hid (Cs w5 w.heap.size (rc R)) := KR.out w5 G3.out
    have Z5 : Hid (Cs w5 (w.heap.size + 2) zra.toList) := KZ.out w5 G3.out
    have G5 : Hid (w.grownBy w5 none) := grown_tr G0.out G3.out
    have S5 : Hid (w.heap.size + 3 ≤ w5.heap.size) := by have h1 := G3.out.size; have h2 := SZ.out; show _ ≤ _; omega
    clear WY
    go_wp2_with (first
      | (refine load_r rfl rfl w.heap.size 0 R rfl K5.out.1 ?_)
      | (go_at_call 67; (with_reducible refine (CO.out _ G5.out).mono ?_); rintro e w6 ⟨u', j', rfl, g6, h6⟩; have G6 : Hid (w5.grownBy w6 none) := g6; have H6 : Hid (∀ W, _ → _) := h6; clear g6 h6)
      | (refine store_row (ty := 60) (w.heap.size + 2) 0 (ra (setUJ R u' j')) rfl rfl ((Z5.out.grown G6.out (by have := S5.out; omega)).there (by simp)) (by kernel_rfl) (by simp [Value.oneCell']) ?_; intro w9 h9; have H9 : Hid (w9 = w6.setCells (w.heap.size + 2) 0 (rc (setUJ R u' j'))) := h9; clear h9))
    refine bodyPost_ret (v := rv (setUJ R u' j')) ?_ rfl ?_
    · exact res_row1 (P := Try.prog) (fn := Try.f33) (p := 4) (ty := 60) rfl rfl (box_set (cs := rc (setUJ R u' j')) (Z5.out.grown G6.out (by have := S5.out; omega)) rfl H9.out) Try.underlying60 rfl (by kernel_rfl)
    · have g69 : w6.grownBy w9 (some (w.heap.size + 2)) := by rw [H9.out]; exact grown_setCells _ _ _ _
      have s5 := S5.out
      refine ⟨u', j', rfl, box_grown (grown_tr G5.out G6.out) (by omega) H9.out, fun W hW => H6.out W ?_⟩
      exact (Chg.of (F := fun k => k < w5.heap.size) g69 (fun k e => by injection e with e; omega)).trans (hW.wide (G := fun k => k < w5.heap.size) (fun k hk => by omega)) (fun k hk => .inl hk)
end Go.Proofs.Ytlolhdijadhklaa
