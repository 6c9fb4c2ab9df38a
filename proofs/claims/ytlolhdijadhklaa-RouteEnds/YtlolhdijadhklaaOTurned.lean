/- Where a way asks behind a reply that doesn't end it. -/
import Derived.Test.YtlolhdijadhklaaOReply
namespace Go.Proofs.Ytlolhdijadhklaa
open Go.RowKit Atl
set_option linter.unusedVariables false
set_option linter.unusedSimpArgs false
set_option maxRecDepth 10000

def setN (r : Wy) (nd : Int) : Wy := ⟨r.n, r.nm, r.m, r.u, r.f, nd, r.lf, r.d, r.er, r.tm, r.j⟩
def askW (r : Wy) : Wy := ⟨r.n, r.nm, r.m, r.u, true, 1, r.lf, r.d, r.er, r.tm, r.j⟩
def mapW (r : Wy) (p : Rp) : Wy := ⟨r.n, r.nm, p.m, p.u, !named r.nm, 1, r.lf, r.d, r.er, r.tm, r.j⟩
def trnW (r : Wy) (p : Rp) : Wy :=
  if ((p.k == 2) && !r.f) = true then askW r
  else if ((p.k == 3) && (r.f && chk p.m)) = true then mapW r p
  else if ((p.k == 1) && ((p.h != r.nd) && wit p.h 1 r.n)) = true then setN r p.h
  else setN r (nxt r)
theorem Cs.node {W : World} {Q : Nat} {r : Wy} (h : Cs W Q (rc r)) (n : Int) : Cs (W.setCell ⟨Q, 14, none⟩ (.int .i64 n)) Q (rc (setN r n)) := by
  have := h.set 14 (.int .i64 n) (by simp)
  exact this
theorem Cs.ask {W : World} {Q : Nat} {r : Wy} (h : Cs W Q (rc r)) : Cs ((W.setCell ⟨Q, 13, none⟩ (.bool true)).setCell ⟨Q, 14, none⟩ (.int .i64 1)) Q (rc (askW r)) := by
  have := (h.set 13 (.bool true) (by simp)).set 14 (.int .i64 1) (by simp)
  exact this
set_option maxRecDepth 100000 in
set_option maxHeartbeats 6400000 in
theorem trn_ask (r : Wy) (p : Rp) (w : World) (hq : Rat w p.m p.u) (hz : Szm p.m) (hk : r.nm.size ≤ 140737488351232) (hb : r.nd < 1000) (hc : 0 ≤ r.nd) (h1 : (p.k == 2) = true) (hf : r.f = false) : Calls Try.prog 99 #[rv r, qv p] w fun e w' => e = .returned (rv (askW r)) ∧ w.grownBy w' none := by
  have CK : Hid (∀ W, w.grownBy W none → _) := fun W g => check_any p.m p.u W (hq.grown g) hz
  have NA : Hid (∀ W, _) := fun W => name_any r.nm hk W
  have NX : Hid (∀ W, _) := fun W => next_by r W hb hc
  have WI : Hid (∀ W, _) := fun W => within_any p.h 1 r.n W
  obtain ⟨W0, hW0⟩ : ∃ W0, W0 = ((w.alloc (.cells (ra r) 60)).alloc (.cells (qa p) 66)).alloc (.cells zra 60) := ⟨_, rfl⟩
  obtain ⟨g0, s0, k0, k1, k2⟩ := three_new w _ _ _ _ _ _ W0 hW0
  have G0 : Hid (w.grownBy W0 none) := g0
  have SZ : Hid (W0.heap.size = w.heap.size + 3) := s0
  have KR : Hid (∀ W, W0.grownBy W none → Cs W w.heap.size (rc r)) := k0
  have KQ : Hid (∀ W, W0.grownBy W none → W.rangeAt (w.heap.size + 1) 0 (qc p)) := fun W g => (k1 W g).1
  have KZ : Hid (∀ W, W0.grownBy W none → Cs W (w.heap.size + 2) zra.toList) := k2
  have c0 : W0.cell? ⟨w.heap.size, 0, none⟩ = some (.int .i64 r.n) := (k0 _ (grown_refl _ _)).1 0 _ rfl
  have c1 : W0.cell? ⟨w.heap.size, 1, none⟩ = some (.string r.nm) := (k0 _ (grown_refl _ _)).1 1 _ rfl
  have c13 : W0.cell? ⟨w.heap.size, 13, none⟩ = some (.bool r.f) := (k0 _ (grown_refl _ _)).1 13 _ rfl
  have c14 : W0.cell? ⟨w.heap.size, 14, none⟩ = some (.int .i64 r.nd) := (k0 _ (grown_refl _ _)).1 14 _ rfl
  have d0 : W0.cell? ⟨w.heap.size + 1, 0, none⟩ = some (.int .i64 p.k) := (k1 _ (grown_refl _ _)).1 0 _ rfl
  have d1 : W0.cell? ⟨w.heap.size + 1, 1, none⟩ = some (.int .i64 p.h) := (k1 _ (grown_refl _ _)).1 1 _ rfl
  have fz : ∀ i, W0.frozen? ⟨w.heap.size, i, none⟩ = false := (k0 _ (grown_refl _ _)).2
  have HW0 : Hid (W0 = _) := hW0
  clear g0 s0 k0 k1 k2 hW0 hq hz hk hb hc
  have HF : Hid (r.f = false) := hf
  rw [hf] at c13
  clear hf
  go_enter Try.func99, Try.ntmps99
  go_upto_region 2 with fail
  rw [show (#[Value.int .i64 0, .string ⟨#[]⟩, .int .i64 0, .int .i64 0, .slice none 0 0, .int .i64 0, .int .i64 0, .int .i64 0, .int .i64 0, .int .i64 0, .int .i64 0, .int .i64 0, .string ⟨#[]⟩, .bool false, .int .i64 0, .int .i64 0, .bool false, .int .i64 0, .int .i64 0, .slice none 0 0] : Array Value) = zra from rfl, ← HW0.out]
  go_upto_region 8 with fail
  have KV : Hid (Cs ((W0.setCell ⟨w.heap.size, 13, none⟩ (.bool true)).setCell ⟨w.heap.size, 14, none⟩ (.int .i64 1)) w.heap.size (rc (askW r))) := (KR.out W0 (grown_refl _ _)).ask
  have gg : W0.grownBy ((W0.setCell ⟨w.heap.size, 13, none⟩ (.bool true)).setCell ⟨w.heap.size, 14, none⟩ (.int .i64 1)) (some w.heap.size) := grown_more (grown_set W0 ⟨w.heap.size, 13, none⟩ (.bool true)) (grown_set _ ⟨w.heap.size, 14, none⟩ (.int .i64 1)) (fun k e => .inl e)
  have ZV0 := (KZ.out W0 (grown_refl _ _)).but gg (by omega) (by have h2 := SZ.out; omega)
  have GV : Hid (w.grownBy _ none) := grown_more G0.out gg (fun k e => .inr (by injection e with e; omega))
  clear gg fz c0 c1 c13 c14 d0 d1 CK NA WI NX
  generalize (W0.setCell ⟨w.heap.size, 13, none⟩ (.bool true)).setCell ⟨w.heap.size, 14, none⟩ (.int .i64 1) = v6 at *
  have ZV : Hid (Cs v6 (w.heap.size + 2) zra.toList) := ZV0
  clear ZV0
  go_wp2_with (first
    | (refine load_r rfl rfl w.heap.size 0 (askW r) rfl KV.out.1 ?_)
    | (refine store_row (ty := 60) (w.heap.size + 2) 0 (ra (askW r)) rfl rfl (ZV.out.there (by simp)) (by kernel_rfl) (by simp [Value.oneCell']) ?_; intro w9 h9; have H9 : Hid (w9 = v6.setCells (w.heap.size + 2) 0 (rc (askW r))) := h9; clear h9))
  refine bodyPost_ret (v := rv (askW r)) ?_ rfl ?_
  · exact res_row1 (P := Try.prog) (fn := Try.f99) (p := 4) (ty := 60) rfl rfl (box_set (cs := rc (askW r)) ZV.out rfl H9.out) Try.underlying60 rfl (by kernel_rfl)
  · exact ⟨rfl, box_grown GV.out (by omega) H9.out⟩
set_option maxRecDepth 100000 in
set_option maxHeartbeats 6400000 in
theorem trn_b (r : Wy) (p : Rp) (w : World) (hq : Rat w p.m p.u) (hz : Szm p.m) (hk : r.nm.size ≤ 140737488351232) (hb : r.nd < 1000) (hc : 0 ≤ r.nd) (h1 : (p.k == 2) = true) (h2 : (p.k == 3) = false) (h3 : (p.k == 1) = false) (hf : r.f = true) : Calls Try.prog 99 #[rv r, qv p] w fun e w' => e = .returned (rv (setN r (nxt r))) ∧ w.grownBy w' none := by
  have CK : Hid (∀ W, w.grownBy W none → _) := fun W g => check_any p.m p.u W (hq.grown g) hz
  have NA : Hid (∀ W, _) := fun W => name_any r.nm hk W
  have NX : Hid (∀ W, _) := fun W => next_by r W hb hc
  have WI : Hid (∀ W, _) := fun W => within_any p.h 1 r.n W
  obtain ⟨W0, hW0⟩ : ∃ W0, W0 = ((w.alloc (.cells (ra r) 60)).alloc (.cells (qa p) 66)).alloc (.cells zra 60) := ⟨_, rfl⟩
  obtain ⟨g0, s0, k0, k1, k2⟩ := three_new w _ _ _ _ _ _ W0 hW0
  have G0 : Hid (w.grownBy W0 none) := g0
  have SZ : Hid (W0.heap.size = w.heap.size + 3) := s0
  have KR : Hid (∀ W, W0.grownBy W none → Cs W w.heap.size (rc r)) := k0
  have KQ : Hid (∀ W, W0.grownBy W none → W.rangeAt (w.heap.size + 1) 0 (qc p)) := fun W g => (k1 W g).1
  have KZ : Hid (∀ W, W0.grownBy W none → Cs W (w.heap.size + 2) zra.toList) := k2
  have c0 : W0.cell? ⟨w.heap.size, 0, none⟩ = some (.int .i64 r.n) := (k0 _ (grown_refl _ _)).1 0 _ rfl
  have c1 : W0.cell? ⟨w.heap.size, 1, none⟩ = some (.string r.nm) := (k0 _ (grown_refl _ _)).1 1 _ rfl
  have c13 : W0.cell? ⟨w.heap.size, 13, none⟩ = some (.bool r.f) := (k0 _ (grown_refl _ _)).1 13 _ rfl
  have c14 : W0.cell? ⟨w.heap.size, 14, none⟩ = some (.int .i64 r.nd) := (k0 _ (grown_refl _ _)).1 14 _ rfl
  have d0 : W0.cell? ⟨w.heap.size + 1, 0, none⟩ = some (.int .i64 p.k) := (k1 _ (grown_refl _ _)).1 0 _ rfl
  have d1 : W0.cell? ⟨w.heap.size + 1, 1, none⟩ = some (.int .i64 p.h) := (k1 _ (grown_refl _ _)).1 1 _ rfl
  have fz : ∀ i, W0.frozen? ⟨w.heap.size, i, none⟩ = false := (k0 _ (grown_refl _ _)).2
  have HW0 : Hid (W0 = _) := hW0
  clear g0 s0 k0 k1 k2 hW0 hq hz hk hb hc
  have HF : Hid (r.f = true) := hf
  rw [hf] at c13
  clear hf
  go_enter Try.func99, Try.ntmps99
  go_upto_region 2 with fail
  rw [show (#[Value.int .i64 0, .string ⟨#[]⟩, .int .i64 0, .int .i64 0, .slice none 0 0, .int .i64 0, .int .i64 0, .int .i64 0, .int .i64 0, .int .i64 0, .int .i64 0, .int .i64 0, .string ⟨#[]⟩, .bool false, .int .i64 0, .int .i64 0, .bool false, .int .i64 0, .int .i64 0, .slice none 0 0] : Array Value) = zra from rfl, ← HW0.out]
  go_upto_region 1 with fail
  have c14v := (KR.out W0 (grown_refl _ _)).1 14 _ rfl
  go_upto_region 8 with (first
    | (refine load_r rfl rfl w.heap.size 0 r rfl (KR.out W0 (grown_refl _ _)).1 ?_)
    | (go_at_call 108; (with_reducible refine (NX.out _).mono ?_); rintro e w5 ⟨rfl, g5⟩; have G5 : Hid (W0.grownBy w5 none) := grown_tr (grown_refl _ _) g5; have c14w : w5.cell? ⟨w.heap.size, 14, none⟩ = some (.int .i64 r.nd) := (KR.out w5 G5.out).1 14 _ rfl; have fzw := (KR.out w5 G5.out).2 14))
  have KV : Hid (Cs (w5.setCell ⟨w.heap.size, 14, none⟩ (.int .i64 (nxt r))) w.heap.size (rc (setN r (nxt r)))) := (KR.out w5 G5.out).node _
  have ZV0 : Cs (w5.setCell ⟨w.heap.size, 14, none⟩ (.int .i64 (nxt r))) (w.heap.size + 2) zra.toList := (KZ.out w5 G5.out).but (grown_set w5 ⟨w.heap.size, 14, none⟩ (.int .i64 (nxt r))) (show w.heap.size + 2 ≠ w.heap.size by omega) (by have h1 := G5.out.size; have h2 := SZ.out; omega)
  have GV : Hid (w.grownBy (w5.setCell ⟨w.heap.size, 14, none⟩ (.int .i64 (nxt r))) none) := grown_more (grown_tr G0.out G5.out) (grown_set w5 ⟨w.heap.size, 14, none⟩ (.int .i64 (nxt r))) (fun k e => .inr (by injection e with e; change w.heap.size = k at e; omega))
  clear c14v c14w fzw fz c0 c1 c13 c14 d0 d1 CK NA WI
  generalize w5.setCell ⟨w.heap.size, 14, none⟩ (.int .i64 (nxt r)) = v6 at *
  have ZV : Hid (Cs v6 (w.heap.size + 2) zra.toList) := ZV0
  clear ZV0
  go_wp2_with (first
    | (refine load_r rfl rfl w.heap.size 0 (setN r (nxt r)) rfl KV.out.1 ?_)
    | (refine store_row (ty := 60) (w.heap.size + 2) 0 (ra (setN r (nxt r))) rfl rfl (ZV.out.there (by simp)) (by kernel_rfl) (by simp [Value.oneCell']) ?_; intro w9 h9; have H9 : Hid (w9 = v6.setCells (w.heap.size + 2) 0 (rc (setN r (nxt r)))) := h9; clear h9))
  refine bodyPost_ret (v := rv (setN r (nxt r))) ?_ rfl ?_
  · exact res_row1 (P := Try.prog) (fn := Try.f99) (p := 4) (ty := 60) rfl rfl (box_set (cs := rc (setN r (nxt r))) ZV.out rfl H9.out) Try.underlying60 rfl (by kernel_rfl)
  · exact ⟨rfl, box_grown GV.out (by omega) H9.out⟩
set_option maxRecDepth 100000 in
set_option maxHeartbeats 6400000 in
theorem trn_c (r : Wy) (p : Rp) (w : World) (hq : Rat w p.m p.u) (hz : Szm p.m) (hk : r.nm.size ≤ 140737488351232) (hb : r.nd < 1000) (hc : 0 ≤ r.nd) (h1 : (p.k == 2) = false) (h2 : (p.k == 3) = true) (h3 : (p.k == 1) = false) (hf : r.f = false) : Calls Try.prog 99 #[rv r, qv p] w fun e w' => e = .returned (rv (setN r (nxt r))) ∧ w.grownBy w' none := by
  have CK : Hid (∀ W, w.grownBy W none → _) := fun W g => check_any p.m p.u W (hq.grown g) hz
  have NA : Hid (∀ W, _) := fun W => name_any r.nm hk W
  have NX : Hid (∀ W, _) := fun W => next_by r W hb hc
  have WI : Hid (∀ W, _) := fun W => within_any p.h 1 r.n W
  obtain ⟨W0, hW0⟩ : ∃ W0, W0 = ((w.alloc (.cells (ra r) 60)).alloc (.cells (qa p) 66)).alloc (.cells zra 60) := ⟨_, rfl⟩
  obtain ⟨g0, s0, k0, k1, k2⟩ := three_new w _ _ _ _ _ _ W0 hW0
  have G0 : Hid (w.grownBy W0 none) := g0
  have SZ : Hid (W0.heap.size = w.heap.size + 3) := s0
  have KR : Hid (∀ W, W0.grownBy W none → Cs W w.heap.size (rc r)) := k0
  have KQ : Hid (∀ W, W0.grownBy W none → W.rangeAt (w.heap.size + 1) 0 (qc p)) := fun W g => (k1 W g).1
  have KZ : Hid (∀ W, W0.grownBy W none → Cs W (w.heap.size + 2) zra.toList) := k2
  have c0 : W0.cell? ⟨w.heap.size, 0, none⟩ = some (.int .i64 r.n) := (k0 _ (grown_refl _ _)).1 0 _ rfl
  have c1 : W0.cell? ⟨w.heap.size, 1, none⟩ = some (.string r.nm) := (k0 _ (grown_refl _ _)).1 1 _ rfl
  have c13 : W0.cell? ⟨w.heap.size, 13, none⟩ = some (.bool r.f) := (k0 _ (grown_refl _ _)).1 13 _ rfl
  have c14 : W0.cell? ⟨w.heap.size, 14, none⟩ = some (.int .i64 r.nd) := (k0 _ (grown_refl _ _)).1 14 _ rfl
  have d0 : W0.cell? ⟨w.heap.size + 1, 0, none⟩ = some (.int .i64 p.k) := (k1 _ (grown_refl _ _)).1 0 _ rfl
  have d1 : W0.cell? ⟨w.heap.size + 1, 1, none⟩ = some (.int .i64 p.h) := (k1 _ (grown_refl _ _)).1 1 _ rfl
  have fz : ∀ i, W0.frozen? ⟨w.heap.size, i, none⟩ = false := (k0 _ (grown_refl _ _)).2
  have HW0 : Hid (W0 = _) := hW0
  clear g0 s0 k0 k1 k2 hW0 hq hz hk hb hc
  have HF : Hid (r.f = false) := hf
  rw [hf] at c13
  clear hf
  go_enter Try.func99, Try.ntmps99
  go_upto_region 2 with fail
  rw [show (#[Value.int .i64 0, .string ⟨#[]⟩, .int .i64 0, .int .i64 0, .slice none 0 0, .int .i64 0, .int .i64 0, .int .i64 0, .int .i64 0, .int .i64 0, .int .i64 0, .int .i64 0, .string ⟨#[]⟩, .bool false, .int .i64 0, .int .i64 0, .bool false, .int .i64 0, .int .i64 0, .slice none 0 0] : Array Value) = zra from rfl, ← HW0.out]
  go_upto_region 1 with fail
  have c14v := (KR.out W0 (grown_refl _ _)).1 14 _ rfl
  go_upto_region 8 with (first
    | (refine load_r rfl rfl w.heap.size 0 r rfl (KR.out W0 (grown_refl _ _)).1 ?_)
    | (go_at_call 108; (with_reducible refine (NX.out _).mono ?_); rintro e w5 ⟨rfl, g5⟩; have G5 : Hid (W0.grownBy w5 none) := grown_tr (grown_refl _ _) g5; have c14w : w5.cell? ⟨w.heap.size, 14, none⟩ = some (.int .i64 r.nd) := (KR.out w5 G5.out).1 14 _ rfl; have fzw := (KR.out w5 G5.out).2 14))
  have KV : Hid (Cs (w5.setCell ⟨w.heap.size, 14, none⟩ (.int .i64 (nxt r))) w.heap.size (rc (setN r (nxt r)))) := (KR.out w5 G5.out).node _
  have ZV0 : Cs (w5.setCell ⟨w.heap.size, 14, none⟩ (.int .i64 (nxt r))) (w.heap.size + 2) zra.toList := (KZ.out w5 G5.out).but (grown_set w5 ⟨w.heap.size, 14, none⟩ (.int .i64 (nxt r))) (show w.heap.size + 2 ≠ w.heap.size by omega) (by have h1 := G5.out.size; have h2 := SZ.out; omega)
  have GV : Hid (w.grownBy (w5.setCell ⟨w.heap.size, 14, none⟩ (.int .i64 (nxt r))) none) := grown_more (grown_tr G0.out G5.out) (grown_set w5 ⟨w.heap.size, 14, none⟩ (.int .i64 (nxt r))) (fun k e => .inr (by injection e with e; change w.heap.size = k at e; omega))
  clear c14v c14w fzw fz c0 c1 c13 c14 d0 d1 CK NA WI
  generalize w5.setCell ⟨w.heap.size, 14, none⟩ (.int .i64 (nxt r)) = v6 at *
  have ZV : Hid (Cs v6 (w.heap.size + 2) zra.toList) := ZV0
  clear ZV0
  go_wp2_with (first
    | (refine load_r rfl rfl w.heap.size 0 (setN r (nxt r)) rfl KV.out.1 ?_)
    | (refine store_row (ty := 60) (w.heap.size + 2) 0 (ra (setN r (nxt r))) rfl rfl (ZV.out.there (by simp)) (by kernel_rfl) (by simp [Value.oneCell']) ?_; intro w9 h9; have H9 : Hid (w9 = v6.setCells (w.heap.size + 2) 0 (rc (setN r (nxt r)))) := h9; clear h9))
  refine bodyPost_ret (v := rv (setN r (nxt r))) ?_ rfl ?_
  · exact res_row1 (P := Try.prog) (fn := Try.f99) (p := 4) (ty := 60) rfl rfl (box_set (cs := rc (setN r (nxt r))) ZV.out rfl H9.out) Try.underlying60 rfl (by kernel_rfl)
  · exact ⟨rfl, box_grown GV.out (by omega) H9.out⟩
set_option maxRecDepth 100000 in
set_option maxHeartbeats 6400000 in
theorem trn_i (r : Wy) (p : Rp) (w : World) (hq : Rat w p.m p.u) (hz : Szm p.m) (hk : r.nm.size ≤ 140737488351232) (hb : r.nd < 1000) (hc : 0 ≤ r.nd) (h1 : (p.k == 2) = false) (h2 : (p.k == 3) = false) (h3 : (p.k == 1) = false) : Calls Try.prog 99 #[rv r, qv p] w fun e w' => e = .returned (rv (setN r (nxt r))) ∧ w.grownBy w' none := by
  have CK : Hid (∀ W, w.grownBy W none → _) := fun W g => check_any p.m p.u W (hq.grown g) hz
  have NA : Hid (∀ W, _) := fun W => name_any r.nm hk W
  have NX : Hid (∀ W, _) := fun W => next_by r W hb hc
  have WI : Hid (∀ W, _) := fun W => within_any p.h 1 r.n W
  obtain ⟨W0, hW0⟩ : ∃ W0, W0 = ((w.alloc (.cells (ra r) 60)).alloc (.cells (qa p) 66)).alloc (.cells zra 60) := ⟨_, rfl⟩
  obtain ⟨g0, s0, k0, k1, k2⟩ := three_new w _ _ _ _ _ _ W0 hW0
  have G0 : Hid (w.grownBy W0 none) := g0
  have SZ : Hid (W0.heap.size = w.heap.size + 3) := s0
  have KR : Hid (∀ W, W0.grownBy W none → Cs W w.heap.size (rc r)) := k0
  have KQ : Hid (∀ W, W0.grownBy W none → W.rangeAt (w.heap.size + 1) 0 (qc p)) := fun W g => (k1 W g).1
  have KZ : Hid (∀ W, W0.grownBy W none → Cs W (w.heap.size + 2) zra.toList) := k2
  have c0 : W0.cell? ⟨w.heap.size, 0, none⟩ = some (.int .i64 r.n) := (k0 _ (grown_refl _ _)).1 0 _ rfl
  have c1 : W0.cell? ⟨w.heap.size, 1, none⟩ = some (.string r.nm) := (k0 _ (grown_refl _ _)).1 1 _ rfl
  have c13 : W0.cell? ⟨w.heap.size, 13, none⟩ = some (.bool r.f) := (k0 _ (grown_refl _ _)).1 13 _ rfl
  have c14 : W0.cell? ⟨w.heap.size, 14, none⟩ = some (.int .i64 r.nd) := (k0 _ (grown_refl _ _)).1 14 _ rfl
  have d0 : W0.cell? ⟨w.heap.size + 1, 0, none⟩ = some (.int .i64 p.k) := (k1 _ (grown_refl _ _)).1 0 _ rfl
  have d1 : W0.cell? ⟨w.heap.size + 1, 1, none⟩ = some (.int .i64 p.h) := (k1 _ (grown_refl _ _)).1 1 _ rfl
  have fz : ∀ i, W0.frozen? ⟨w.heap.size, i, none⟩ = false := (k0 _ (grown_refl _ _)).2
  have HW0 : Hid (W0 = _) := hW0
  clear g0 s0 k0 k1 k2 hW0 hq hz hk hb hc
  go_enter Try.func99, Try.ntmps99
  go_upto_region 2 with fail
  rw [show (#[Value.int .i64 0, .string ⟨#[]⟩, .int .i64 0, .int .i64 0, .slice none 0 0, .int .i64 0, .int .i64 0, .int .i64 0, .int .i64 0, .int .i64 0, .int .i64 0, .int .i64 0, .string ⟨#[]⟩, .bool false, .int .i64 0, .int .i64 0, .bool false, .int .i64 0, .int .i64 0, .slice none 0 0] : Array Value) = zra from rfl, ← HW0.out]
  go_upto_region 1 with fail
  have c14v := (KR.out W0 (grown_refl _ _)).1 14 _ rfl
  go_upto_region 8 with (first
    | (refine load_r rfl rfl w.heap.size 0 r rfl (KR.out W0 (grown_refl _ _)).1 ?_)
    | (go_at_call 108; (with_reducible refine (NX.out _).mono ?_); rintro e w5 ⟨rfl, g5⟩; have G5 : Hid (W0.grownBy w5 none) := grown_tr (grown_refl _ _) g5; have c14w : w5.cell? ⟨w.heap.size, 14, none⟩ = some (.int .i64 r.nd) := (KR.out w5 G5.out).1 14 _ rfl; have fzw := (KR.out w5 G5.out).2 14))
  have KV : Hid (Cs (w5.setCell ⟨w.heap.size, 14, none⟩ (.int .i64 (nxt r))) w.heap.size (rc (setN r (nxt r)))) := (KR.out w5 G5.out).node _
  have ZV0 : Cs (w5.setCell ⟨w.heap.size, 14, none⟩ (.int .i64 (nxt r))) (w.heap.size + 2) zra.toList := (KZ.out w5 G5.out).but (grown_set w5 ⟨w.heap.size, 14, none⟩ (.int .i64 (nxt r))) (show w.heap.size + 2 ≠ w.heap.size by omega) (by have h1 := G5.out.size; have h2 := SZ.out; omega)
  have GV : Hid (w.grownBy (w5.setCell ⟨w.heap.size, 14, none⟩ (.int .i64 (nxt r))) none) := grown_more (grown_tr G0.out G5.out) (grown_set w5 ⟨w.heap.size, 14, none⟩ (.int .i64 (nxt r))) (fun k e => .inr (by injection e with e; change w.heap.size = k at e; omega))
  clear c14v c14w fzw fz c0 c1 c13 c14 d0 d1 CK NA WI
  generalize w5.setCell ⟨w.heap.size, 14, none⟩ (.int .i64 (nxt r)) = v6 at *
  have ZV : Hid (Cs v6 (w.heap.size + 2) zra.toList) := ZV0
  clear ZV0
  go_wp2_with (first
    | (refine load_r rfl rfl w.heap.size 0 (setN r (nxt r)) rfl KV.out.1 ?_)
    | (refine store_row (ty := 60) (w.heap.size + 2) 0 (ra (setN r (nxt r))) rfl rfl (ZV.out.there (by simp)) (by kernel_rfl) (by simp [Value.oneCell']) ?_; intro w9 h9; have H9 : Hid (w9 = v6.setCells (w.heap.size + 2) 0 (rc (setN r (nxt r)))) := h9; clear h9))
  refine bodyPost_ret (v := rv (setN r (nxt r))) ?_ rfl ?_
  · exact res_row1 (P := Try.prog) (fn := Try.f99) (p := 4) (ty := 60) rfl rfl (box_set (cs := rc (setN r (nxt r))) ZV.out rfl H9.out) Try.underlying60 rfl (by kernel_rfl)
  · exact ⟨rfl, box_grown GV.out (by omega) H9.out⟩
end Go.Proofs.Ytlolhdijadhklaa
