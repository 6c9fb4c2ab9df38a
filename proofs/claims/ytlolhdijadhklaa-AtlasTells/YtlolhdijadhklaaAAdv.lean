/- advanced. -/
import Derived.Test.YtlolhdijadhklaaAChg0
import Derived.Test.YtlolhdijadhklaaAPSpan
import Derived.Test.YtlolhdijadhklaaAOwn
namespace Go.Proofs.Ytlolhdijadhklaa
open Go.RowKit Atl
set_option linter.unusedVariables false
set_option maxRecDepth 10000

set_option maxRecDepth 100000 in
set_option maxHeartbeats 6400000 in
theorem advanced_any (a : Am) (u : S3) (w : World) (base : Nat) (hO : eS.Own w base (.slice u.a u.n u.c) a.l) (hn : u.n = a.l.length) (hb : base ≤ w.heap.size) (hr : Rgt a) (hp : peq a.p zP = false) :
    Calls Try.prog 52 #[av a u] w fun e w' => LeftM w base (.slice u.a u.n u.c) (Atl.step a) e w' := by
  obtain ⟨s, hs, ep1, ep2, hst, hkd, se1, se2⟩ := plan_span hr hp
  have hl : a.l.length ≤ 16 := hr.n16
  obtain ⟨W0, hW0⟩ : ∃ W0, W0 = (w.alloc (.cells (aa a u) 26)).alloc (.cells zaa 26) := ⟨_, rfl⟩
  obtain ⟨g0, sz0, r0, k0', k0⟩ := two_boxes w a u zaa _ _ W0 hW0
  obtain ⟨FO, hFO⟩ : ∃ FO : Nat → Prop, FO = fun k => (Value.slice u.a u.n u.c).ownBlock = some k := ⟨_, rfl⟩
  have HFO : Hid (∀ w', Chg FO w w' → w.grownBy w' (Value.slice u.a u.n u.c).ownBlock) := fun w' h => ⟨h.os, h.tape, h.output, h.size, fun k hk hn => h.block k hk (fun e => by subst hFO; exact hn (by first | exact e | exact e.symm))⟩
  have S0 : Hid (St FO w W0 w.heap.size (w.heap.size + 1) base a u) := ⟨k0' _ (grown_refl _ _), k0 _ (grown_refl _ _), hO.grown g0, fun k e => by have := hO.lt k e; omega, hn, by omega, Chg.of (F := FO) g0 (by simp), Nat.le_refl _, by omega, by omega, by omega, fun k e => .inl (by rw [hFO]; exact e)⟩
  have OL : Hid (∀ k, (Value.slice u.a u.n u.c).ownBlock = some k → base ≤ k ∧ k < w.heap.size) := hO.lt
  have SZ : Hid (W0.heap.size = w.heap.size + 2) := sz0
  have HW0 : Hid (W0 = _) := hW0
  have CH : Hid (∀ W, eS.Own W base (.slice u.a u.n u.c) a.l → base ≤ W.heap.size → _) := fun W o b => changed_any a u (idx a.l a.p.sh) s W base o hn b hl rfl hs se1 se2 (kind_123 hkd) (fun h3 => by obtain ⟨t, t1, _, _, _, t2, t3⟩ := kind_next hr hkd h3; exact ⟨t, t1, t2, t3⟩)
  have c4 := (cells_a (r0 W0 (grown_refl _ _))).2.2.2.2.1
  have STP : Hid (a.p.ph = 1 → Atl.step a = one1 a (idx a.l a.p.sh) s) := fun h => by unfold Atl.step; rw [if_pos h, List.getD_eq_getElem?_getD, hs]; rfl
  have HN : Hid (u.n = a.l.length) := hn
  clear hW0 g0 sz0 r0 k0' k0 hO hFO hs hst hkd hr hp ep1 ep2 se1 se2 hn
  cases p1 : (a.p.ph == 1) with
  | true =>
    have e1 := STP.out (by simpa using p1)
    have E1 : Hid (Atl.step a = _) := e1
    clear e1 STP
    have S1 := CH.out W0 S0.out.own (by have := SZ.out; omega)
    clear CH
    go_enter Try.func52, Try.ntmps52
    go_upto_region 1 with fail
    rw [show (#[Value.int .i64 0, .int .i64 0, .slice none 0 0, .int .i64 0, .int .i64 0, .int .i64 0, .int .i64 0, .int .i64 0, .int .i64 0, .int .i64 0, .string ⟨#[]⟩] : Array Value) = zaa from rfl, ← HW0.out]
    go_wp2_with (first
      | (refine load_a w.heap.size 0 a u rfl S0.out.row ?_)
      | (go_at_call 83; (with_reducible refine S1.mono ?_); rintro e w3 ⟨u3, rfl, o3, n3, b3, g3⟩; have TH : Hid (Cs w3 (w.heap.size + 1) zaa.toList) := S0.out.2.1.kept (Chg.of (F := fun k => (Value.slice u.a u.n u.c).ownBlock = some k) g3 (fun k e => e)) (fun e => by have := OL.out _ e; omega) (by have := SZ.out; omega))
      | (refine store_row (ty := 26) (w.heap.size + 1) 0 (aa (one1 a (idx a.l a.p.sh) s) u3) rfl rfl (TH.out.there (by simp)) (by kernel_rfl) (by simp [Value.oneCell']) ?_; intro w9 h9; have H9 : Hid (w9 = w3.setCells (w.heap.size + 1) 0 (ac (one1 a (idx a.l a.p.sh) s) u3)) := h9; clear h9))
    refine bodyPost_ret (v := av (one1 a (idx a.l a.p.sh) s) u3) ?_ rfl ?_
    · exact res_row1 (P := Try.prog) (fn := Try.f52) (p := 2) (ty := 26) rfl rfl (box_set (cs := ac (one1 a (idx a.l a.p.sh) s) u3) TH.out rfl H9.out) Try.underlying26 rfl (by kernel_rfl)
    · rw [E1.out]
      have nb : ∀ k, (Value.slice u3.a u3.n u3.c).ownBlock = some k → w.heap.size + 1 < k ∨ k < w.heap.size := fun k hk => by
        rcases b3 k hk with h | h
        · exact .inr (OL.out k h).2
        · exact .inl (by have := SZ.out; omega)
      refine ⟨u3, rfl, ?_, n3, fun k e => (b3 k e).imp id (fun h => by have := SZ.out; omega), ?_⟩
      · rw [H9.out]
        exact o3.but (grown_setCells _ _ _ _) (fun k hk e => by have h1 := nb k hk; injection e with e; omega)
      · rw [H9.out]
        refine grown_more (grown_more (by exact World.grownBy.but (by rw [HW0.out]; exact grown_tr (World.grownBy_alloc _ _ none) (World.grownBy_alloc _ _ none)) _) g3 (fun _ e => .inl e)) (grown_setCells _ _ _ _) (fun k e => .inr (by injection e with e; omega))
  | false =>
    have np1 : ¬ a.p.ph = 1 := by simpa using p1
    clear CH STP
    cases p2 : (a.p.ph == 2) with
    | true =>
      have q2 : a.p.ph = 2 := by simpa using p2
      have E1 : Hid (Atl.step a = ⟨a.g, a.la, a.l, ⟨a.p.k, 3, a.p.sh, a.p.ot, a.p.gp, a.p.pa, a.p.ep, a.p.key⟩⟩) := by show _ = _; unfold Atl.step; rw [if_neg np1, if_pos q2]
      have S1 : Hid (St FO w (W0.setCell ⟨w.heap.size, 4, none⟩ (.int .i64 3)) w.heap.size (w.heap.size + 1) base ⟨a.g, a.la, a.l, ⟨a.p.k, 3, a.p.sh, a.p.ot, a.p.gp, a.p.pa, a.p.ep, a.p.key⟩⟩ u) := S0.out.phase 3
      have f4 := S0.out.1.2 4
      clear q2 np1
      go_enter Try.func52, Try.ntmps52
      go_upto_region 1 with fail
      rw [show (#[Value.int .i64 0, .int .i64 0, .slice none 0 0, .int .i64 0, .int .i64 0, .int .i64 0, .int .i64 0, .int .i64 0, .int .i64 0, .int .i64 0, .string ⟨#[]⟩] : Array Value) = zaa from rfl, ← HW0.out]
      go_wp2_with (first | (refine load_a w.heap.size 0 ⟨a.g, a.la, a.l, ⟨a.p.k, 3, a.p.sh, a.p.ot, a.p.gp, a.p.pa, a.p.ep, a.p.key⟩⟩ u rfl S1.out.row ?_) | (refine store_row (ty := 26) (w.heap.size + 1) 0 (aa ⟨a.g, a.la, a.l, ⟨a.p.k, 3, a.p.sh, a.p.ot, a.p.gp, a.p.pa, a.p.ep, a.p.key⟩⟩ u) rfl rfl (S1.out.2.1.there (by simp)) (by kernel_rfl) (by simp [Value.oneCell']) ?_; intro w9 h9; have H9 : Hid (_ = _) := h9; clear h9))
      obtain ⟨r9, o9, R9, c9⟩ := S1.out.done H9.out
      refine bodyPost_ret (v := av ⟨a.g, a.la, a.l, ⟨a.p.k, 3, a.p.sh, a.p.ot, a.p.gp, a.p.pa, a.p.ep, a.p.key⟩⟩ u) ?_ rfl ?_
      · exact res_row1 (P := Try.prog) (fn := Try.f52) (p := 2) (ty := 26) rfl rfl r9 Try.underlying26 rfl (by kernel_rfl)
      · rw [E1.out]; exact ⟨u, rfl, o9, HN.out, fun k e => .inl e, HFO.out _ c9⟩
    | false =>
      have q2 : ¬ a.p.ph = 2 := by simpa using p2
      have E1 : Hid (Atl.step a = ⟨a.g, a.la, a.l, zP⟩) := by show _ = _; unfold Atl.step; rw [if_neg np1, if_neg q2]
      have TH : Hid (W0.there w.heap.size 3 8) := fun j hj => ⟨by
        have := S0.out.row (3 + j) ((ac a u)[3 + j]'(by simp; omega)) (List.getElem?_eq_getElem _)
        rw [Nat.zero_add] at this
        rw [this]; rfl, S0.out.1.2 _⟩
      have S1 := S0.out.plan zP
      clear q2 np1
      go_enter Try.func52, Try.ntmps52
      go_upto_region 1 with fail
      rw [show (#[Value.int .i64 0, .int .i64 0, .slice none 0 0, .int .i64 0, .int .i64 0, .int .i64 0, .int .i64 0, .int .i64 0, .int .i64 0, .int .i64 0, .string ⟨#[]⟩] : Array Value) = zaa from rfl, ← HW0.out]
      go_wp2_with (first | (refine store_row (ty := 24) w.heap.size 3 (pa zP) rfl rfl TH.out (by kernel_rfl) (by simp [Value.oneCell']) ?_; intro w6 h6; rw [show (pa zP).toList = pc zP from rfl] at h6; rw [← h6] at S1; clear h6) | (refine load_a w.heap.size 0 ⟨a.g, a.la, a.l, zP⟩ u rfl S1.row ?_) | (refine store_row (ty := 26) (w.heap.size + 1) 0 (aa ⟨a.g, a.la, a.l, zP⟩ u) rfl rfl (S1.2.1.there (by simp)) (by kernel_rfl) (by simp [Value.oneCell']) ?_; intro w9 h9; have H9 : Hid (_ = _) := h9; clear h9))
      obtain ⟨r9, o9, R9, c9⟩ := S1.done H9.out
      refine bodyPost_ret (v := av ⟨a.g, a.la, a.l, zP⟩ u) ?_ rfl ?_
      · exact res_row1 (P := Try.prog) (fn := Try.f52) (p := 2) (ty := 26) rfl rfl r9 Try.underlying26 rfl (by kernel_rfl)
      · rw [E1.out]; exact ⟨u, rfl, o9, HN.out, fun k e => .inl e, HFO.out _ c9⟩

end Go.Proofs.Ytlolhdijadhklaa
