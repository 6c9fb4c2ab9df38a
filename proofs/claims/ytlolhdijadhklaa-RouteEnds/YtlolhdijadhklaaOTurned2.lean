/- Where a way asks behind a reply that doesn't end it. -/
import Derived.Test.YtlolhdijadhklaaOTurned
namespace Go.Proofs.Ytlolhdijadhklaa
open Go.RowKit Atl
set_option linter.unusedVariables false
set_option linter.unusedSimpArgs false
set_option maxRecDepth 10000

set_option maxRecDepth 100000 in
set_option maxHeartbeats 6400000 in
theorem trn_d (r : Wy) (p : Rp) (w : World) (hq : Rat w p.m p.u) (hz : Szm p.m) (hk : r.nm.size ≤ 140737488351232) (hb : r.nd < 1000) (hc : 0 ≤ r.nd) (h1 : (p.k == 2) = false) (h2 : (p.k == 3) = true) (h3 : (p.k == 1) = false) (hf : r.f = true) (hm : chk p.m = false) : Calls Try.prog 99 #[rv r, qv p] w fun e w' => e = .returned (rv (setN r (nxt r))) ∧ w.grownBy w' none := by
  have CK : Hid (∀ W, w.grownBy W none → _) := fun W g => check_any p.m p.u W (hq.grown g) hz
  have NA : Hid (∀ W, _) := fun W => name_any r.nm hk W
  have NX : Hid (∀ W, _) := fun W => next_by r W hb hc
  have WI : Hid (∀ W, _) := fun W => within_any p.h 1 r.n W
  obtain ⟨W0, hW0⟩ : ∃ W0, W0 = ((w.alloc (.cells (ra r) 60)).alloc (.cells (qa p) 66)).alloc (.cells zra 60) := ⟨_, rfl⟩
  obtain ⟨g0, s0, k0, k1, k2⟩ := three_new w _ _ _ _ _ _ W0 hW0
  have G0 : Hid (w.grownBy W0 none) := g0
  have SZ : Hid (W0.heap.size = w.heap.size + 3) := s0
  have KR : Hid (∀ W, W0.grownBy W none → Cs W w.heap.size (rc r)) := k0
  have KQ : Hid (∀ W, W0.grownBy W none → W.rangeAt (w.heap.size + 1) 0 (qc p)) := fun W g => (k1 W g).1
  have KZ : Hid (∀ W, W0.grownBy W none → Cs W (w.heap.size + 2) zra.toList) := k2
  have c0 : W0.cell? ⟨w.heap.size, 0, none⟩ = some (.int .i64 r.n) := (k0 _ (grown_refl _ _)).1 0 _ rfl
  have c1 : W0.cell? ⟨w.heap.size, 1, none⟩ = some (.string r.nm) := (k0 _ (grown_refl _ _)).1 1 _ rfl
  have c13 : W0.cell? ⟨w.heap.size, 13, none⟩ = some (.bool r.f) := (k0 _ (grown_refl _ _)).1 13 _ rfl
  have c14 : W0.cell? ⟨w.heap.size, 14, none⟩ = some (.int .i64 r.nd) := (k0 _ (grown_refl _ _)).1 14 _ rfl
  have d0 : W0.cell? ⟨w.heap.size + 1, 0, none⟩ = some (.int .i64 p.k) := (k1 _ (grown_refl _ _)).1 0 _ rfl
  have d1 : W0.cell? ⟨w.heap.size + 1, 1, none⟩ = some (.int .i64 p.h) := (k1 _ (grown_refl _ _)).1 1 _ rfl
  have fz : ∀ i, W0.frozen? ⟨w.heap.size, i, none⟩ = false := (k0 _ (grown_refl _ _)).2
  have HW0 : Hid (W0 = _) := hW0
  clear g0 s0 k0 k1 k2 hW0 hq hz hk hb hc
  have HF : Hid (r.f = true) := hf
  rw [hf] at c13
  clear hf
  rw [hm] at CK
  clear hm
  go_enter Try.func99, Try.ntmps99
  go_upto_region 2 with fail
  rw [show (#[Value.int .i64 0, .string ⟨#[]⟩, .int .i64 0, .int .i64 0, .slice none 0 0, .int .i64 0, .int .i64 0, .int .i64 0, .int .i64 0, .int .i64 0, .int .i64 0, .int .i64 0, .string ⟨#[]⟩, .bool false, .int .i64 0, .int .i64 0, .bool false, .int .i64 0, .int .i64 0, .slice none 0 0] : Array Value) = zra from rfl, ← HW0.out]
  go_upto_region 6 with (first | (refine ld_ag rfl rfl (w.heap.size + 1) 5 p.m p.u rfl rfl (qmap_in (KQ.out W0 (grown_refl _ _))) ?_) | (go_at_call 14; (with_reducible refine (CK.out _ G0.out).mono ?_); rintro e w3 ⟨rfl, g3⟩; have G3 : Hid (W0.grownBy w3 none) := g3; clear g3))
  have e0 := (KQ.out w3 G3.out) 0 _ rfl
  have e0' : w3.cell? ⟨w.heap.size + 1, 0, none⟩ = some (.int .i64 p.k) := e0
  clear e0
  go_upto_region 1 with fail
  have c14v := (KR.out w3 (G3.out)).1 14 _ rfl
  go_upto_region 8 with (first
    | (refine load_r rfl rfl w.heap.size 0 r rfl (KR.out w3 (G3.out)).1 ?_)
    | (go_at_call 108; (with_reducible refine (NX.out _).mono ?_); rintro e w5 ⟨rfl, g5⟩; have G5 : Hid (W0.grownBy w5 none) := grown_tr (G3.out) g5; have c14w : w5.cell? ⟨w.heap.size, 14, none⟩ = some (.int .i64 r.nd) := (KR.out w5 G5.out).1 14 _ rfl; have fzw := (KR.out w5 G5.out).2 14))
  have KV : Hid (Cs (w5.setCell ⟨w.heap.size, 14, none⟩ (.int .i64 (nxt r))) w.heap.size (rc (setN r (nxt r)))) := (KR.out w5 G5.out).node _
  have ZV0 : Cs (w5.setCell ⟨w.heap.size, 14, none⟩ (.int .i64 (nxt r))) (w.heap.size + 2) zra.toList := (KZ.out w5 G5.out).but (grown_set w5 ⟨w.heap.size, 14, none⟩ (.int .i64 (nxt r))) (show w.heap.size + 2 ≠ w.heap.size by omega) (by have h1 := G5.out.size; have h2 := SZ.out; omega)
  have GV : Hid (w.grownBy (w5.setCell ⟨w.heap.size, 14, none⟩ (.int .i64 (nxt r))) none) := grown_more (grown_tr G0.out G5.out) (grown_set w5 ⟨w.heap.size, 14, none⟩ (.int .i64 (nxt r))) (fun k e => .inr (by injection e with e; change w.heap.size = k at e; omega))
  clear c14v c14w fzw fz c0 c1 c13 c14 d0 d1 CK NA WI
  generalize w5.setCell ⟨w.heap.size, 14, none⟩ (.int .i64 (nxt r)) = v6 at *
  have ZV : Hid (Cs v6 (w.heap.size + 2) zra.toList) := ZV0
  clear ZV0
  go_wp2_with (first
    | (refine load_r rfl rfl w.heap.size 0 (setN r (nxt r)) rfl KV.out.1 ?_)
    | (refine store_row (ty := 60) (w.heap.size + 2) 0 (ra (setN r (nxt r))) rfl rfl (ZV.out.there (by simp)) (by kernel_rfl) (by simp [Value.oneCell']) ?_; intro w9 h9; have H9 : Hid (w9 = v6.setCells (w.heap.size + 2) 0 (rc (setN r (nxt r)))) := h9; clear h9))
  refine bodyPost_ret (v := rv (setN r (nxt r))) ?_ rfl ?_
  · exact res_row1 (P := Try.prog) (fn := Try.f99) (p := 4) (ty := 60) rfl rfl (box_set (cs := rc (setN r (nxt r))) ZV.out rfl H9.out) Try.underlying60 rfl (by kernel_rfl)
  · exact ⟨rfl, box_grown GV.out (by omega) H9.out⟩
set_option maxRecDepth 100000 in
set_option maxHeartbeats 6400000 in
theorem trn_map (r : Wy) (p : Rp) (w : World) (hq : Rat w p.m p.u) (hz : Szm p.m) (hk : r.nm.size ≤ 140737488351232) (hb : r.nd < 1000) (hc : 0 ≤ r.nd) (h1 : (p.k == 2) = false) (h2 : (p.k == 3) = true) (hf : r.f = true) (hm : chk p.m = true) : Calls Try.prog 99 #[rv r, qv p] w fun e w' => e = .returned (rv (mapW r p)) ∧ w.grownBy w' none := by
  have CK : Hid (∀ W, w.grownBy W none → _) := fun W g => check_any p.m p.u W (hq.grown g) hz
  have NA : Hid (∀ W, _) := fun W => name_any r.nm hk W
  have NX : Hid (∀ W, _) := fun W => next_by r W hb hc
  have WI : Hid (∀ W, _) := fun W => within_any p.h 1 r.n W
  obtain ⟨W0, hW0⟩ : ∃ W0, W0 = ((w.alloc (.cells (ra r) 60)).alloc (.cells (qa p) 66)).alloc (.cells zra 60) := ⟨_, rfl⟩
  obtain ⟨g0, s0, k0, k1, k2⟩ := three_new w _ _ _ _ _ _ W0 hW0
  have G0 : Hid (w.grownBy W0 none) := g0
  have SZ : Hid (W0.heap.size = w.heap.size + 3) := s0
  have KR : Hid (∀ W, W0.grownBy W none → Cs W w.heap.size (rc r)) := k0
  have KQ : Hid (∀ W, W0.grownBy W none → W.rangeAt (w.heap.size + 1) 0 (qc p)) := fun W g => (k1 W g).1
  have KZ : Hid (∀ W, W0.grownBy W none → Cs W (w.heap.size + 2) zra.toList) := k2
  have c0 : W0.cell? ⟨w.heap.size, 0, none⟩ = some (.int .i64 r.n) := (k0 _ (grown_refl _ _)).1 0 _ rfl
  have c1 : W0.cell? ⟨w.heap.size, 1, none⟩ = some (.string r.nm) := (k0 _ (grown_refl _ _)).1 1 _ rfl
  have c13 : W0.cell? ⟨w.heap.size, 13, none⟩ = some (.bool r.f) := (k0 _ (grown_refl _ _)).1 13 _ rfl
  have c14 : W0.cell? ⟨w.heap.size, 14, none⟩ = some (.int .i64 r.nd) := (k0 _ (grown_refl _ _)).1 14 _ rfl
  have d0 : W0.cell? ⟨w.heap.size + 1, 0, none⟩ = some (.int .i64 p.k) := (k1 _ (grown_refl _ _)).1 0 _ rfl
  have d1 : W0.cell? ⟨w.heap.size + 1, 1, none⟩ = some (.int .i64 p.h) := (k1 _ (grown_refl _ _)).1 1 _ rfl
  have fz : ∀ i, W0.frozen? ⟨w.heap.size, i, none⟩ = false := (k0 _ (grown_refl _ _)).2
  have HW0 : Hid (W0 = _) := hW0
  clear g0 s0 k0 k1 k2 hW0 hq hz hk hb hc
  have HF : Hid (r.f = true) := hf
  rw [hf] at c13
  clear hf
  rw [hm] at CK
  clear hm
  go_enter Try.func99, Try.ntmps99
  go_upto_region 2 with fail
  rw [show (#[Value.int .i64 0, .string ⟨#[]⟩, .int .i64 0, .int .i64 0, .slice none 0 0, .int .i64 0, .int .i64 0, .int .i64 0, .int .i64 0, .int .i64 0, .int .i64 0, .int .i64 0, .string ⟨#[]⟩, .bool false, .int .i64 0, .int .i64 0, .bool false, .int .i64 0, .int .i64 0, .slice none 0 0] : Array Value) = zra from rfl, ← HW0.out]
  go_upto_region 5 with (first | (refine ld_ag rfl rfl (w.heap.size + 1) 5 p.m p.u rfl rfl (qmap_in (KQ.out W0 (grown_refl _ _))) ?_) | (go_at_call 14; (with_reducible refine (CK.out _ G0.out).mono ?_); rintro e w3 ⟨rfl, g3⟩; have G3 : Hid (W0.grownBy w3 none) := g3; clear g3))
  have KQ3 : Hid (∀ W, w3.grownBy W (some w.heap.size) → W.rangeAt (w.heap.size + 1) 0 (qc p)) := fun W gg i v hi => (Chg.of (F := fun k => k = w.heap.size) gg (fun k e => by injection e with e; exact e.symm)).cell (KQ.out w3 G3.out i v hi) (show ¬ (w.heap.size + 1 = w.heap.size) by omega)
  have K3 : Hid (Cs w3 w.heap.size (rc r)) := KR.out w3 G3.out
  have Z3 : Hid (Cs w3 (w.heap.size + 2) zra.toList) := KZ.out w3 G3.out
  have S3' : Hid (w.heap.size + 3 ≤ w3.heap.size) := by have h1 := G3.out.size; have h2 := SZ.out; show _ ≤ _; omega
  have K3d : Cs w3.drew w.heap.size (rc r) := K3.out
  clear fz c0 c1 c13 c14 d0 d1 CK WI NX
  refine wp_region_held_drew (S := fun W => w3.grownBy W (some w.heap.size) ∧ ∃ r' : Wy, Cs W w.heap.size (rc r') ∧ r'.nm = r.nm) (by kernel_rfl) ⟨grown_more (grown_refl w3 (some w.heap.size)) (grown_drew (grown_refl w3 none)) (by simp), r, K3d, rfl⟩ (fun hHeld => ?_)
  refine wpAnyH_take (i := 0) (v := .pointer (some ⟨w.heap.size + 1, 5, none⟩)) rfl (by kernel_rfl) (by kernel_rfl) (by kernel_rfl) (fun _ _ _ h => h) (.inl ⟨rfl, fun W _ => rfl⟩) hHeld ?_
  simp only [Act.put, List.setIfInBounds_toArray, List.set_cons_zero, List.set_cons_succ]
  refine wpAnyH_take (i := 1) (v := av p.m p.u) rfl (by kernel_rfl) (by kernel_rfl) (by kernel_rfl) (fun _ _ _ h => h) (yieldsIf_load_mid rfl 26 (.tmp 32) rfl (w.heap.size + 1) 5 rfl (ac p.m p.u) _ (fun W hS => qmap_in (KQ3.out W hS.1)) Try.underlying26 rfl (by kernel_rfl)) hHeld ?_
  simp only [Act.put, List.setIfInBounds_toArray, List.set_cons_zero, List.set_cons_succ]
  refine wpAnyH_take (i := 2) (v := .pointer (some ⟨w.heap.size, 1, none⟩)) rfl (by kernel_rfl) (by kernel_rfl) (by kernel_rfl) (fun _ _ _ h => h) (.inl ⟨rfl, fun W _ => rfl⟩) hHeld ?_
  simp only [Act.put, List.setIfInBounds_toArray, List.set_cons_zero, List.set_cons_succ]
  refine wpAnyH_take (i := 3) (v := .string r.nm) rfl (by kernel_rfl) (by kernel_rfl) (by kernel_rfl) (fun _ _ _ h => h) (.inl ⟨rfl, fun W hS => by obtain ⟨_, r', hc, hn⟩ := hS; have c1 : W.cell? ⟨w.heap.size, 1, none⟩ = some (.string r.nm) := hn ▸ hc.1 1 _ rfl; clear hc hn; go_simp⟩) hHeld ?_
  simp only [Act.put, List.setIfInBounds_toArray, List.set_cons_zero, List.set_cons_succ]
  refine wpAnyH_take (i := 6) (v := .pointer (some ⟨w.heap.size, 2, none⟩)) rfl (by kernel_rfl) (by kernel_rfl) (by kernel_rfl) (fun _ _ _ h => h) (.inl ⟨rfl, fun W _ => rfl⟩) hHeld ?_
  simp only [Act.put, List.setIfInBounds_toArray, List.set_cons_zero, List.set_cons_succ]
  refine wpAnyH_ready (rs := [4]) (by kernel_rfl) (by simp) ?_
  refine AllReadyH.cons (o := _) rfl (fun K hK => ?_) AllReadyH.nil
  go_simp
  refine (NA.out _).mono ?_
  rintro e w2 ⟨rfl, e2⟩
  subst e2
  refine hK.out _ _ hHeld (fun hHeld => ?_)
  clear hK K
  refine wpAnyH_take (i := 5) (v := .bool (!named r.nm)) rfl (by kernel_rfl) (by kernel_rfl) (by kernel_rfl) (fun _ _ _ h => h) (.inl ⟨rfl, fun W _ => rfl⟩) hHeld ?_
  simp only [Act.put, List.setIfInBounds_toArray, List.set_cons_zero, List.set_cons_succ]
  refine wpAnyH_ready (rs := [7]) (by kernel_rfl) (by simp) ?_
  refine AllReadyH.cons (o := _) rfl (fun K hK => ?_) AllReadyH.nil
  rw [if_pos (by rfl)]
  refine wp_store_mid 26 _ _ rfl w.heap.size 2 (aa p.m p.u) rfl rfl (K3d.there_at (by simp)) (by kernel_rfl) (by simp [Value.oneCell']) ?_
  obtain ⟨w6, hw6⟩ : ∃ w6, w6 = w3.drew.setCells w.heap.size 2 (aa p.m p.u).toList := ⟨_, rfl⟩
  rw [← hw6]
  have g6 : w3.grownBy w6 (some w.heap.size) := by rw [hw6]; exact grown_more (grown_more (grown_refl w3 (some w.heap.size)) (grown_drew (grown_refl w3 none)) (by simp)) (grown_setCells _ _ _ _) (fun k e => .inl e)
  have K6 : Cs w6 w.heap.size (rc ⟨r.n, r.nm, p.m, p.u, r.f, r.nd, r.lf, r.d, r.er, r.tm, r.j⟩) := by rw [hw6]; exact K3d.map p.m p.u
  clear hHeld hw6
  refine hK.out _ _ ⟨g6, _, K6, rfl⟩ (fun hHeld => ?_)
  clear hK K
  have c13 : w6.cell? ⟨w.heap.size, 13, none⟩ = some (.bool r.f) := K6.1 13 _ rfl
  have f13 := K6.2 13
  refine wpAnyH_take (i := 8) (v := .pointer (some ⟨w.heap.size, 13, none⟩)) rfl (by kernel_rfl) (by kernel_rfl) (by kernel_rfl) (fun _ _ _ h => h) (.inl ⟨rfl, fun W _ => rfl⟩) hHeld ?_
  simp only [Act.put, List.setIfInBounds_toArray, List.set_cons_zero, List.set_cons_succ]
  refine wpAnyH_ready (rs := [9]) (by kernel_rfl) (by simp) ?_
  refine AllReadyH.cons (o := _) rfl (fun K hK => ?_) AllReadyH.nil
  go_simp
  have g7 : w3.grownBy (w6.setCell ⟨w.heap.size, 13, none⟩ (.bool (!named r.nm))) (some w.heap.size) := grown_more g6 (grown_set w6 ⟨w.heap.size, 13, none⟩ _) (fun k e => .inl e)
  have K7 : Cs (w6.setCell ⟨w.heap.size, 13, none⟩ (.bool (!named r.nm))) w.heap.size (rc ⟨r.n, r.nm, p.m, p.u, !named r.nm, r.nd, r.lf, r.d, r.er, r.tm, r.j⟩) := K6.set 13 (.bool (!named r.nm)) (by simp)
  clear hHeld c13 f13 K6 g6
  generalize w6.setCell ⟨w.heap.size, 13, none⟩ (.bool (!named r.nm)) = w7 at *
  refine hK.out _ _ ⟨g7, _, K7, rfl⟩ (fun hHeld => ?_)
  clear hK K
  have c14 : w7.cell? ⟨w.heap.size, 14, none⟩ = some (.int .i64 r.nd) := K7.1 14 _ rfl
  have f14 := K7.2 14
  refine wpAnyH_take (i := 10) (v := .pointer (some ⟨w.heap.size, 14, none⟩)) rfl (by kernel_rfl) (by kernel_rfl) (by kernel_rfl) (fun _ _ _ h => h) (.inl ⟨rfl, fun W _ => rfl⟩) hHeld ?_
  simp only [Act.put, List.setIfInBounds_toArray, List.set_cons_zero, List.set_cons_succ]
  refine wpAnyH_ready (rs := [11]) (by kernel_rfl) (by simp) ?_
  refine AllReadyH.cons (o := _) rfl (fun K hK => ?_) AllReadyH.nil
  go_simp
  have g8 : w3.grownBy (w7.setCell ⟨w.heap.size, 14, none⟩ (.int .i64 1)) (some w.heap.size) := grown_more g7 (grown_set w7 ⟨w.heap.size, 14, none⟩ _) (fun k e => .inl e)
  have K8 : Cs (w7.setCell ⟨w.heap.size, 14, none⟩ (.int .i64 1)) w.heap.size (rc (mapW r p)) := K7.set 14 (.int .i64 1) (by simp)
  clear hHeld c14 f14 K7 g7
  generalize w7.setCell ⟨w.heap.size, 14, none⟩ (.int .i64 1) = v6 at *
  refine hK.out _ _ ⟨g8, _, K8, rfl⟩ (fun hHeld => ?_)
  clear hK K hHeld
  refine wpAnyH_done (by kernel_rfl) ?_ _
  have KV : Hid (Cs v6 w.heap.size (rc (mapW r p))) := K8
  have ZV0 := Z3.out.but g8 (by omega) (by have := S3'.out; omega)
  have GV : Hid (w.grownBy v6 none) := grown_more (grown_tr G0.out G3.out) g8 (fun k e => .inr (by injection e with e; omega))
  clear g8 K8 K3d
  have ZV : Hid (Cs v6 (w.heap.size + 2) zra.toList) := ZV0
  clear ZV0
  go_wp2_with (first
    | (refine load_r rfl rfl w.heap.size 0 (mapW r p) rfl KV.out.1 ?_)
    | (refine store_row (ty := 60) (w.heap.size + 2) 0 (ra (mapW r p)) rfl rfl (ZV.out.there (by simp)) (by kernel_rfl) (by simp [Value.oneCell']) ?_; intro w9 h9; have H9 : Hid (w9 = v6.setCells (w.heap.size + 2) 0 (rc (mapW r p))) := h9; clear h9))
  refine bodyPost_ret (v := rv (mapW r p)) ?_ rfl ?_
  · exact res_row1 (P := Try.prog) (fn := Try.f99) (p := 4) (ty := 60) rfl rfl (box_set (cs := rc (mapW r p)) ZV.out rfl H9.out) Try.underlying60 rfl (by kernel_rfl)
  · exact ⟨rfl, box_grown GV.out (by omega) H9.out⟩
set_option maxRecDepth 100000 in
set_option maxHeartbeats 6400000 in
theorem trn_f (r : Wy) (p : Rp) (w : World) (hq : Rat w p.m p.u) (hz : Szm p.m) (hk : r.nm.size ≤ 140737488351232) (hb : r.nd < 1000) (hc : 0 ≤ r.nd) (h1 : (p.k == 2) = false) (h2 : (p.k == 3) = false) (h3 : (p.k == 1) = true) (h4 : (p.h != r.nd) = false) : Calls Try.prog 99 #[rv r, qv p] w fun e w' => e = .returned (rv (setN r (nxt r))) ∧ w.grownBy w' none := by
  have CK : Hid (∀ W, w.grownBy W none → _) := fun W g => check_any p.m p.u W (hq.grown g) hz
  have NA : Hid (∀ W, _) := fun W => name_any r.nm hk W
  have NX : Hid (∀ W, _) := fun W => next_by r W hb hc
  have WI : Hid (∀ W, _) := fun W => within_any p.h 1 r.n W
  obtain ⟨W0, hW0⟩ : ∃ W0, W0 = ((w.alloc (.cells (ra r) 60)).alloc (.cells (qa p) 66)).alloc (.cells zra 60) := ⟨_, rfl⟩
  obtain ⟨g0, s0, k0, k1, k2⟩ := three_new w _ _ _ _ _ _ W0 hW0
  have G0 : Hid (w.grownBy W0 none) := g0
  have SZ : Hid (W0.heap.size = w.heap.size + 3) := s0
  have KR : Hid (∀ W, W0.grownBy W none → Cs W w.heap.size (rc r)) := k0
  have KQ : Hid (∀ W, W0.grownBy W none → W.rangeAt (w.heap.size + 1) 0 (qc p)) := fun W g => (k1 W g).1
  have KZ : Hid (∀ W, W0.grownBy W none → Cs W (w.heap.size + 2) zra.toList) := k2
  have c0 : W0.cell? ⟨w.heap.size, 0, none⟩ = some (.int .i64 r.n) := (k0 _ (grown_refl _ _)).1 0 _ rfl
  have c1 : W0.cell? ⟨w.heap.size, 1, none⟩ = some (.string r.nm) := (k0 _ (grown_refl _ _)).1 1 _ rfl
  have c13 : W0.cell? ⟨w.heap.size, 13, none⟩ = some (.bool r.f) := (k0 _ (grown_refl _ _)).1 13 _ rfl
  have c14 : W0.cell? ⟨w.heap.size, 14, none⟩ = some (.int .i64 r.nd) := (k0 _ (grown_refl _ _)).1 14 _ rfl
  have d0 : W0.cell? ⟨w.heap.size + 1, 0, none⟩ = some (.int .i64 p.k) := (k1 _ (grown_refl _ _)).1 0 _ rfl
  have d1 : W0.cell? ⟨w.heap.size + 1, 1, none⟩ = some (.int .i64 p.h) := (k1 _ (grown_refl _ _)).1 1 _ rfl
  have fz : ∀ i, W0.frozen? ⟨w.heap.size, i, none⟩ = false := (k0 _ (grown_refl _ _)).2
  have HW0 : Hid (W0 = _) := hW0
  clear g0 s0 k0 k1 k2 hW0 hq hz hk hb hc
  go_enter Try.func99, Try.ntmps99
  go_upto_region 2 with fail
  rw [show (#[Value.int .i64 0, .string ⟨#[]⟩, .int .i64 0, .int .i64 0, .slice none 0 0, .int .i64 0, .int .i64 0, .int .i64 0, .int .i64 0, .int .i64 0, .int .i64 0, .int .i64 0, .string ⟨#[]⟩, .bool false, .int .i64 0, .int .i64 0, .bool false, .int .i64 0, .int .i64 0, .slice none 0 0] : Array Value) = zra from rfl, ← HW0.out]
  go_upto_region 1 with fail
  have c14v := (KR.out W0 (grown_refl _ _)).1 14 _ rfl
  go_upto_region 8 with (first
    | (refine load_r rfl rfl w.heap.size 0 r rfl (KR.out W0 (grown_refl _ _)).1 ?_)
    | (go_at_call 108; (with_reducible refine (NX.out _).mono ?_); rintro e w5 ⟨rfl, g5⟩; have G5 : Hid (W0.grownBy w5 none) := grown_tr (grown_refl _ _) g5; have c14w : w5.cell? ⟨w.heap.size, 14, none⟩ = some (.int .i64 r.nd) := (KR.out w5 G5.out).1 14 _ rfl; have fzw := (KR.out w5 G5.out).2 14))
  have KV : Hid (Cs (w5.setCell ⟨w.heap.size, 14, none⟩ (.int .i64 (nxt r))) w.heap.size (rc (setN r (nxt r)))) := (KR.out w5 G5.out).node _
  have ZV0 : Cs (w5.setCell ⟨w.heap.size, 14, none⟩ (.int .i64 (nxt r))) (w.heap.size + 2) zra.toList := (KZ.out w5 G5.out).but (grown_set w5 ⟨w.heap.size, 14, none⟩ (.int .i64 (nxt r))) (show w.heap.size + 2 ≠ w.heap.size by omega) (by have h1 := G5.out.size; have h2 := SZ.out; omega)
  have GV : Hid (w.grownBy (w5.setCell ⟨w.heap.size, 14, none⟩ (.int .i64 (nxt r))) none) := grown_more (grown_tr G0.out G5.out) (grown_set w5 ⟨w.heap.size, 14, none⟩ (.int .i64 (nxt r))) (fun k e => .inr (by injection e with e; change w.heap.size = k at e; omega))
  clear c14v c14w fzw fz c0 c1 c13 c14 d0 d1 CK NA WI
  generalize w5.setCell ⟨w.heap.size, 14, none⟩ (.int .i64 (nxt r)) = v6 at *
  have ZV : Hid (Cs v6 (w.heap.size + 2) zra.toList) := ZV0
  clear ZV0
  go_wp2_with (first
    | (refine load_r rfl rfl w.heap.size 0 (setN r (nxt r)) rfl KV.out.1 ?_)
    | (refine store_row (ty := 60) (w.heap.size + 2) 0 (ra (setN r (nxt r))) rfl rfl (ZV.out.there (by simp)) (by kernel_rfl) (by simp [Value.oneCell']) ?_; intro w9 h9; have H9 : Hid (w9 = v6.setCells (w.heap.size + 2) 0 (rc (setN r (nxt r)))) := h9; clear h9))
  refine bodyPost_ret (v := rv (setN r (nxt r))) ?_ rfl ?_
  · exact res_row1 (P := Try.prog) (fn := Try.f99) (p := 4) (ty := 60) rfl rfl (box_set (cs := rc (setN r (nxt r))) ZV.out rfl H9.out) Try.underlying60 rfl (by kernel_rfl)
  · exact ⟨rfl, box_grown GV.out (by omega) H9.out⟩
set_option maxRecDepth 100000 in
set_option maxHeartbeats 6400000 in
theorem trn_g (r : Wy) (p : Rp) (w : World) (hq : Rat w p.m p.u) (hz : Szm p.m) (hk : r.nm.size ≤ 140737488351232) (hb : r.nd < 1000) (hc : 0 ≤ r.nd) (h1 : (p.k == 2) = false) (h2 : (p.k == 3) = false) (h3 : (p.k == 1) = true) (h4 : (p.h != r.nd) = true) (h5 : wit p.h 1 r.n = false) : Calls Try.prog 99 #[rv r, qv p] w fun e w' => e = .returned (rv (setN r (nxt r))) ∧ w.grownBy w' none := by
  have CK : Hid (∀ W, w.grownBy W none → _) := fun W g => check_any p.m p.u W (hq.grown g) hz
  have NA : Hid (∀ W, _) := fun W => name_any r.nm hk W
  have NX : Hid (∀ W, _) := fun W => next_by r W hb hc
  have WI : Hid (∀ W, _) := fun W => within_any p.h 1 r.n W
  obtain ⟨W0, hW0⟩ : ∃ W0, W0 = ((w.alloc (.cells (ra r) 60)).alloc (.cells (qa p) 66)).alloc (.cells zra 60) := ⟨_, rfl⟩
  obtain ⟨g0, s0, k0, k1, k2⟩ := three_new w _ _ _ _ _ _ W0 hW0
  have G0 : Hid (w.grownBy W0 none) := g0
  have SZ : Hid (W0.heap.size = w.heap.size + 3) := s0
  have KR : Hid (∀ W, W0.grownBy W none → Cs W w.heap.size (rc r)) := k0
  have KQ : Hid (∀ W, W0.grownBy W none → W.rangeAt (w.heap.size + 1) 0 (qc p)) := fun W g => (k1 W g).1
  have KZ : Hid (∀ W, W0.grownBy W none → Cs W (w.heap.size + 2) zra.toList) := k2
  have c0 : W0.cell? ⟨w.heap.size, 0, none⟩ = some (.int .i64 r.n) := (k0 _ (grown_refl _ _)).1 0 _ rfl
  have c1 : W0.cell? ⟨w.heap.size, 1, none⟩ = some (.string r.nm) := (k0 _ (grown_refl _ _)).1 1 _ rfl
  have c13 : W0.cell? ⟨w.heap.size, 13, none⟩ = some (.bool r.f) := (k0 _ (grown_refl _ _)).1 13 _ rfl
  have c14 : W0.cell? ⟨w.heap.size, 14, none⟩ = some (.int .i64 r.nd) := (k0 _ (grown_refl _ _)).1 14 _ rfl
  have d0 : W0.cell? ⟨w.heap.size + 1, 0, none⟩ = some (.int .i64 p.k) := (k1 _ (grown_refl _ _)).1 0 _ rfl
  have d1 : W0.cell? ⟨w.heap.size + 1, 1, none⟩ = some (.int .i64 p.h) := (k1 _ (grown_refl _ _)).1 1 _ rfl
  have fz : ∀ i, W0.frozen? ⟨w.heap.size, i, none⟩ = false := (k0 _ (grown_refl _ _)).2
  have HW0 : Hid (W0 = _) := hW0
  clear g0 s0 k0 k1 k2 hW0 hq hz hk hb hc
  rw [h5] at WI
  clear h5
  go_enter Try.func99, Try.ntmps99
  go_upto_region 2 with fail
  rw [show (#[Value.int .i64 0, .string ⟨#[]⟩, .int .i64 0, .int .i64 0, .slice none 0 0, .int .i64 0, .int .i64 0, .int .i64 0, .int .i64 0, .int .i64 0, .int .i64 0, .int .i64 0, .string ⟨#[]⟩, .bool false, .int .i64 0, .int .i64 0, .bool false, .int .i64 0, .int .i64 0, .slice none 0 0] : Array Value) = zra from rfl, ← HW0.out]
  go_upto_region 1 with (go_at_call 68; (with_reducible refine (WI.out _).mono ?_); rintro e w2 ⟨rfl, e2⟩; have e2' := e2.symm; clear e2; subst e2')
  have c14v := (KR.out W0 (grown_refl _ _)).1 14 _ rfl
  go_upto_region 8 with (first
    | (refine load_r rfl rfl w.heap.size 0 r rfl (KR.out W0 (grown_refl _ _)).1 ?_)
    | (go_at_call 108; (with_reducible refine (NX.out _).mono ?_); rintro e w5 ⟨rfl, g5⟩; have G5 : Hid (W0.grownBy w5 none) := grown_tr (grown_refl _ _) g5; have c14w : w5.cell? ⟨w.heap.size, 14, none⟩ = some (.int .i64 r.nd) := (KR.out w5 G5.out).1 14 _ rfl; have fzw := (KR.out w5 G5.out).2 14))
  have KV : Hid (Cs (w5.setCell ⟨w.heap.size, 14, none⟩ (.int .i64 (nxt r))) w.heap.size (rc (setN r (nxt r)))) := (KR.out w5 G5.out).node _
  have ZV0 : Cs (w5.setCell ⟨w.heap.size, 14, none⟩ (.int .i64 (nxt r))) (w.heap.size + 2) zra.toList := (KZ.out w5 G5.out).but (grown_set w5 ⟨w.heap.size, 14, none⟩ (.int .i64 (nxt r))) (show w.heap.size + 2 ≠ w.heap.size by omega) (by have h1 := G5.out.size; have h2 := SZ.out; omega)
  have GV : Hid (w.grownBy (w5.setCell ⟨w.heap.size, 14, none⟩ (.int .i64 (nxt r))) none) := grown_more (grown_tr G0.out G5.out) (grown_set w5 ⟨w.heap.size, 14, none⟩ (.int .i64 (nxt r))) (fun k e => .inr (by injection e with e; change w.heap.size = k at e; omega))
  clear c14v c14w fzw fz c0 c1 c13 c14 d0 d1 CK NA WI
  generalize w5.setCell ⟨w.heap.size, 14, none⟩ (.int .i64 (nxt r)) = v6 at *
  have ZV : Hid (Cs v6 (w.heap.size + 2) zra.toList) := ZV0
  clear ZV0
  go_wp2_with (first
    | (refine load_r rfl rfl w.heap.size 0 (setN r (nxt r)) rfl KV.out.1 ?_)
    | (refine store_row (ty := 60) (w.heap.size + 2) 0 (ra (setN r (nxt r))) rfl rfl (ZV.out.there (by simp)) (by kernel_rfl) (by simp [Value.oneCell']) ?_; intro w9 h9; have H9 : Hid (w9 = v6.setCells (w.heap.size + 2) 0 (rc (setN r (nxt r)))) := h9; clear h9))
  refine bodyPost_ret (v := rv (setN r (nxt r))) ?_ rfl ?_
  · exact res_row1 (P := Try.prog) (fn := Try.f99) (p := 4) (ty := 60) rfl rfl (box_set (cs := rc (setN r (nxt r))) ZV.out rfl H9.out) Try.underlying60 rfl (by kernel_rfl)
  · exact ⟨rfl, box_grown GV.out (by omega) H9.out⟩
set_option maxRecDepth 100000 in
set_option maxHeartbeats 6400000 in
theorem trn_hint (r : Wy) (p : Rp) (w : World) (hq : Rat w p.m p.u) (hz : Szm p.m) (hk : r.nm.size ≤ 140737488351232) (hb : r.nd < 1000) (hc : 0 ≤ r.nd) (h1 : (p.k == 2) = false) (h2 : (p.k == 3) = false) (h3 : (p.k == 1) = true) (h4 : (p.h != r.nd) = true) (h5 : wit p.h 1 r.n = true) : Calls Try.prog 99 #[rv r, qv p] w fun e w' => e = .returned (rv (setN r p.h)) ∧ w.grownBy w' none := by
  have CK : Hid (∀ W, w.grownBy W none → _) := fun W g => check_any p.m p.u W (hq.grown g) hz
  have NA : Hid (∀ W, _) := fun W => name_any r.nm hk W
  have NX : Hid (∀ W, _) := fun W => next_by r W hb hc
  have WI : Hid (∀ W, _) := fun W => within_any p.h 1 r.n W
  obtain ⟨W0, hW0⟩ : ∃ W0, W0 = ((w.alloc (.cells (ra r) 60)).alloc (.cells (qa p) 66)).alloc (.cells zra 60) := ⟨_, rfl⟩
  obtain ⟨g0, s0, k0, k1, k2⟩ := three_new w _ _ _ _ _ _ W0 hW0
  have G0 : Hid (w.grownBy W0 none) := g0
  have SZ : Hid (W0.heap.size = w.heap.size + 3) := s0
  have KR : Hid (∀ W, W0.grownBy W none → Cs W w.heap.size (rc r)) := k0
  have KQ : Hid (∀ W, W0.grownBy W none → W.rangeAt (w.heap.size + 1) 0 (qc p)) := fun W g => (k1 W g).1
  have KZ : Hid (∀ W, W0.grownBy W none → Cs W (w.heap.size + 2) zra.toList) := k2
  have c0 : W0.cell? ⟨w.heap.size, 0, none⟩ = some (.int .i64 r.n) := (k0 _ (grown_refl _ _)).1 0 _ rfl
  have c1 : W0.cell? ⟨w.heap.size, 1, none⟩ = some (.string r.nm) := (k0 _ (grown_refl _ _)).1 1 _ rfl
  have c13 : W0.cell? ⟨w.heap.size, 13, none⟩ = some (.bool r.f) := (k0 _ (grown_refl _ _)).1 13 _ rfl
  have c14 : W0.cell? ⟨w.heap.size, 14, none⟩ = some (.int .i64 r.nd) := (k0 _ (grown_refl _ _)).1 14 _ rfl
  have d0 : W0.cell? ⟨w.heap.size + 1, 0, none⟩ = some (.int .i64 p.k) := (k1 _ (grown_refl _ _)).1 0 _ rfl
  have d1 : W0.cell? ⟨w.heap.size + 1, 1, none⟩ = some (.int .i64 p.h) := (k1 _ (grown_refl _ _)).1 1 _ rfl
  have fz : ∀ i, W0.frozen? ⟨w.heap.size, i, none⟩ = false := (k0 _ (grown_refl _ _)).2
  have HW0 : Hid (W0 = _) := hW0
  clear g0 s0 k0 k1 k2 hW0 hq hz hk hb hc
  rw [h5] at WI
  clear h5
  go_enter Try.func99, Try.ntmps99
  go_upto_region 2 with fail
  rw [show (#[Value.int .i64 0, .string ⟨#[]⟩, .int .i64 0, .int .i64 0, .slice none 0 0, .int .i64 0, .int .i64 0, .int .i64 0, .int .i64 0, .int .i64 0, .int .i64 0, .int .i64 0, .string ⟨#[]⟩, .bool false, .int .i64 0, .int .i64 0, .bool false, .int .i64 0, .int .i64 0, .slice none 0 0] : Array Value) = zra from rfl, ← HW0.out]
  go_upto_region 8 with (go_at_call 68; (with_reducible refine (WI.out _).mono ?_); rintro e w2 ⟨rfl, e2⟩; have e2' := e2.symm; clear e2; subst e2')
  have KV : Hid (Cs (W0.setCell ⟨w.heap.size, 14, none⟩ (.int .i64 p.h)) w.heap.size (rc (setN r p.h))) := (KR.out W0 (grown_refl _ _)).node _
  have ZV0 : Cs (W0.setCell ⟨w.heap.size, 14, none⟩ (.int .i64 p.h)) (w.heap.size + 2) zra.toList := (KZ.out W0 (grown_refl _ _)).but (grown_set W0 ⟨w.heap.size, 14, none⟩ (.int .i64 p.h)) (show w.heap.size + 2 ≠ w.heap.size by omega) (by have h2 := SZ.out; omega)
  have GV : Hid (w.grownBy (W0.setCell ⟨w.heap.size, 14, none⟩ (.int .i64 p.h)) none) := grown_more G0.out (grown_set W0 ⟨w.heap.size, 14, none⟩ (.int .i64 p.h)) (fun k e => .inr (by injection e with e; change w.heap.size = k at e; omega))
  clear fz c0 c1 c13 c14 d0 d1 CK NA WI NX
  generalize W0.setCell ⟨w.heap.size, 14, none⟩ (.int .i64 p.h) = v6 at *
  have ZV : Hid (Cs v6 (w.heap.size + 2) zra.toList) := ZV0
  clear ZV0
  go_wp2_with (first
    | (refine load_r rfl rfl w.heap.size 0 (setN r p.h) rfl KV.out.1 ?_)
    | (refine store_row (ty := 60) (w.heap.size + 2) 0 (ra (setN r p.h)) rfl rfl (ZV.out.there (by simp)) (by kernel_rfl) (by simp [Value.oneCell']) ?_; intro w9 h9; have H9 : Hid (w9 = v6.setCells (w.heap.size + 2) 0 (rc (setN r p.h))) := h9; clear h9))
  refine bodyPost_ret (v := rv (setN r p.h)) ?_ rfl ?_
  · exact res_row1 (P := Try.prog) (fn := Try.f99) (p := 4) (ty := 60) rfl rfl (box_set (cs := rc (setN r p.h)) ZV.out rfl H9.out) Try.underlying60 rfl (by kernel_rfl)
  · exact ⟨rfl, box_grown GV.out (by omega) H9.out⟩
end Go.Proofs.Ytlolhdijadhklaa
