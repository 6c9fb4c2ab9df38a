/- drawnSplit. -/
import Derived.Test.YtlolhdijadhklaaABox
namespace Go.Proofs.Ytlolhdijadhklaa
open Go.RowKit Atl
set_option linter.unusedVariables false
set_option maxRecDepth 10000

set_option maxRecDepth 100000 in
set_option maxHeartbeats 3200000 in
theorem dsplit_any (a : Am) (u : S3) (i : Nat) (s : Sp) (k : ByteArray) (w : World) (h : Rat w a u) (hs : a.l[i]? = some s) (hk : k.size ≤ 140737488351232) (l1 : 1 ≤ a.la) (l2 : a.la ≤ 1099511627776) : Calls Try.prog 81 #[av a u, .int .i64 (i : Int), .string k] w fun e w' => e = .returned (.tuple #[pv (if parts s k = false then zP else if a.l.length = 16 ∨ a.la = 1099511627776 then zP else ⟨2, 1, s.sh, a.la + 1, s.gr, 0, s.ep, k⟩), .int .i64 (if parts s k = false then 170 else if a.l.length = 16 ∨ a.la = 1099511627776 then 3 else 0)]) ∧ w.grownBy w' none := by
  have GR := parts_any s k hk
  have RAT : Hid (Rat w a u) := h
  have dW : IntKind.i64.wrap (a.la + 1) = a.la + 1 := by rw [IntKind.wrap_i64]; omega
  obtain ⟨W0, hW0⟩ : ∃ W0, W0 = (w.alloc (.cells (aa a u) 26)).alloc (.cells zpa 24) := ⟨_, rfl⟩
  obtain ⟨g0, sz0, r0, _, k0⟩ := two_boxes w a u zpa _ _ W0 hW0
  have G0 : Hid (w.grownBy W0 none) := g0
  have SZ : Hid (W0.heap.size = w.heap.size + 2) := sz0
  have CA : Hid (∀ W, W0.grownBy W none → W.rangeAt w.heap.size 0 (ac a u)) := r0
  have CR : Hid (∀ W, W0.grownBy W none → Cs W (w.heap.size + 1) zpa.toList) := k0
  have HW0 : Hid (W0 = _) := hW0
  clear g0 sz0 r0 k0 hW0
  obtain ⟨hR, hn, hb⟩ := h
  have hl := (List.getElem?_eq_some_iff.1 hs).1
  obtain ⟨ua, un, uc⟩ := u
  simp only at hn hR CA HW0 RAT ⊢
  have HN : Hid (a.l.length = un) := hn.symm
  rw [HN.out]
  rw [← hn] at hl hb
  obtain ⟨g, o, ea, r1⟩ := range_at (hR.grown G0.out) hs
  have RG : Hid (W0.rangeAt g (o + i * 5) (sc s)) := r1
  have c2 := (cells_a (CA.out W0 (grown_refl _ _))).2.2.1
  subst ea
  have un16 : (un : Int) ≤ 9223372036854775807 := by omega
  obtain ⟨W1, hW1⟩ : ∃ W1, W1 = W0.alloc (.cells (sa s) 29) := ⟨_, rfl⟩
  have G1 : Hid (W0.grownBy W1 none) := by rw [hW1]; exact World.grownBy_alloc _ _ none
  have SB : Hid (∀ W, W1.grownBy W none → W.rangeAt W0.heap.size 0 (sc s)) := fun W g => by rw [hW1] at g; exact (cs_new g).1
  have HW1 : Hid (W1 = _) := hW1
  obtain ⟨b0, b1, b2, b3, b4⟩ := cells_s (SB.out W1 (grown_refl _ _))
  obtain ⟨q, hq⟩ : ∃ q, q = W0.heap.size := ⟨_, rfl⟩
  rw [← hq] at b0 b1 b2 b3 b4
  have HQ : Hid (q = W0.heap.size) := hq
  clear hR hn hb r1 hW1 hs hq
  clear l1 l2
  cases h1 : parts s k with
  | false =>
    rw [h1] at GR
    rw [if_pos rfl, if_pos rfl]
    go_enter Try.func81, Try.ntmps81
    go_upto_region 1 with fail
    rw [show (#[Value.int .i64 0, .int .i64 0, .int .i64 0, .int .i64 0, .int .i64 0, .int .i64 0, .int .i64 0, .string ⟨#[]⟩] : Array Value) = zpa from rfl, ← HW0.out]
    go_upto_region 2 with (refine load_s g (o + i * 5) s rfl RG.out ?_)
    rw [← HW1.out, ← HQ.out]
    go_wp2_with (first | (refine load_s q 0 s rfl (by rw [HQ.out]; exact SB.out W1 (grown_refl _ _)) ?_) | (go_at_call 100; (with_reducible refine (GR _).mono ?_); rintro e w2 ⟨rfl, g2⟩; obtain ⟨d0, d1, d2, d3, d4⟩ := cells_s (SB.out w2 g2); rw [← HQ.out] at d0 d1 d2 d3 d4; obtain ⟨f0, f1, f2, f3, f4, f5, f6, f7, f8, f9, f10⟩ := cells_a (CA.out w2 (grown_tr G1.out g2)); clear f0 f3 f4 f5 f6 f7 f8 f9 f10) | (refine store_row (ty := 24) (w.heap.size + 1) 0 (pa zP) rfl rfl ((CR.out w2 (grown_tr G1.out g2)).there (by simp)) (by kernel_rfl) (by simp [Value.oneCell']) ?_; intro w9 h9; have H9 : Hid (_ = _) := h9; clear h9))
    refine bodyPost_ret (v := .tuple #[pv zP, .int .i64 170]) ?_ rfl ?_
    · exact res_row2 (P := Try.prog) (fn := Try.f81) (p := 6) (u := 7) (ty := 24) rfl rfl (box_set (cs := pc zP) (CR.out w2 (grown_tr G1.out g2)) rfl H9.out) Try.underlying24 rfl (by kernel_rfl)
    · exact ⟨rfl, box_grown (grown_tr G0.out (grown_tr G1.out g2)) (by omega) H9.out⟩
  | true =>
    rw [h1] at GR
    rw [if_neg (show ¬ (true = false) by simp), if_neg (show ¬ (true = false) by simp)]
    cases h2 : ((un : Int) == 16) with
    | true =>
      have e2 : un = 16 := by have : (un : Int) = 16 := by simpa using h2
                              omega
      rw [if_pos (.inl e2), if_pos (.inl e2)]
      clear e2
      go_enter Try.func81, Try.ntmps81
      go_upto_region 1 with fail
      rw [show (#[Value.int .i64 0, .int .i64 0, .int .i64 0, .int .i64 0, .int .i64 0, .int .i64 0, .int .i64 0, .string ⟨#[]⟩] : Array Value) = zpa from rfl, ← HW0.out]
      go_upto_region 2 with (refine load_s g (o + i * 5) s rfl RG.out ?_)
      rw [← HW1.out, ← HQ.out]
      go_wp2_with (first | (refine load_s q 0 s rfl (by rw [HQ.out]; exact SB.out W1 (grown_refl _ _)) ?_) | (go_at_call 100; (with_reducible refine (GR _).mono ?_); rintro e w2 ⟨rfl, g2⟩; obtain ⟨d0, d1, d2, d3, d4⟩ := cells_s (SB.out w2 g2); rw [← HQ.out] at d0 d1 d2 d3 d4; obtain ⟨f0, f1, f2, f3, f4, f5, f6, f7, f8, f9, f10⟩ := cells_a (CA.out w2 (grown_tr G1.out g2)); clear f0 f3 f4 f5 f6 f7 f8 f9 f10) | (refine store_row (ty := 24) (w.heap.size + 1) 0 (pa zP) rfl rfl ((CR.out w2 (grown_tr G1.out g2)).there (by simp)) (by kernel_rfl) (by simp [Value.oneCell']) ?_; intro w9 h9; have H9 : Hid (_ = _) := h9; clear h9))
      refine bodyPost_ret (v := .tuple #[pv zP, .int .i64 3]) ?_ rfl ?_
      · exact res_row2 (P := Try.prog) (fn := Try.f81) (p := 6) (u := 7) (ty := 24) rfl rfl (box_set (cs := pc zP) (CR.out w2 (grown_tr G1.out g2)) rfl H9.out) Try.underlying24 rfl (by kernel_rfl)
      · exact ⟨rfl, box_grown (grown_tr G0.out (grown_tr G1.out g2)) (by omega) H9.out⟩
    | false =>
      have e2 : ¬ un = 16 := fun e => by rw [e] at h2; simp at h2
      cases h3 : (a.la == 1099511627776) with
      | true =>
        have e3 : a.la = 1099511627776 := by simpa using h3
        rw [if_pos (.inr e3), if_pos (.inr e3)]
        clear e2 e3
        go_enter Try.func81, Try.ntmps81
        go_upto_region 1 with fail
        rw [show (#[Value.int .i64 0, .int .i64 0, .int .i64 0, .int .i64 0, .int .i64 0, .int .i64 0, .int .i64 0, .string ⟨#[]⟩] : Array Value) = zpa from rfl, ← HW0.out]
        go_upto_region 2 with (refine load_s g (o + i * 5) s rfl RG.out ?_)
        rw [← HW1.out, ← HQ.out]
        go_wp2_with (first | (refine load_s q 0 s rfl (by rw [HQ.out]; exact SB.out W1 (grown_refl _ _)) ?_) | (go_at_call 100; (with_reducible refine (GR _).mono ?_); rintro e w2 ⟨rfl, g2⟩; obtain ⟨d0, d1, d2, d3, d4⟩ := cells_s (SB.out w2 g2); rw [← HQ.out] at d0 d1 d2 d3 d4; obtain ⟨f0, f1, f2, f3, f4, f5, f6, f7, f8, f9, f10⟩ := cells_a (CA.out w2 (grown_tr G1.out g2)); clear f0 f3 f4 f5 f6 f7 f8 f9 f10) | (refine store_row (ty := 24) (w.heap.size + 1) 0 (pa zP) rfl rfl ((CR.out w2 (grown_tr G1.out g2)).there (by simp)) (by kernel_rfl) (by simp [Value.oneCell']) ?_; intro w9 h9; have H9 : Hid (_ = _) := h9; clear h9))
        refine bodyPost_ret (v := .tuple #[pv zP, .int .i64 3]) ?_ rfl ?_
        · exact res_row2 (P := Try.prog) (fn := Try.f81) (p := 6) (u := 7) (ty := 24) rfl rfl (box_set (cs := pc zP) (CR.out w2 (grown_tr G1.out g2)) rfl H9.out) Try.underlying24 rfl (by kernel_rfl)
        · exact ⟨rfl, box_grown (grown_tr G0.out (grown_tr G1.out g2)) (by omega) H9.out⟩
      | false =>
        have e3 : ¬ (un = 16 ∨ a.la = 1099511627776) := fun h => by
          rcases h with h | h
          · exact e2 h
          · rw [h] at h3; simp at h3
        rw [if_neg e3, if_neg e3]
        clear e2 e3
        go_enter Try.func81, Try.ntmps81
        go_upto_region 1 with fail
        rw [show (#[Value.int .i64 0, .int .i64 0, .int .i64 0, .int .i64 0, .int .i64 0, .int .i64 0, .int .i64 0, .string ⟨#[]⟩] : Array Value) = zpa from rfl, ← HW0.out]
        go_upto_region 2 with (refine load_s g (o + i * 5) s rfl RG.out ?_)
        rw [← HW1.out, ← HQ.out]
        go_wp2_with (first | (refine load_s q 0 s rfl (by rw [HQ.out]; exact SB.out W1 (grown_refl _ _)) ?_) | (go_at_call 100; (with_reducible refine (GR _).mono ?_); rintro e w2 ⟨rfl, g2⟩; obtain ⟨d0, d1, d2, d3, d4⟩ := cells_s (SB.out w2 g2); rw [← HQ.out] at d0 d1 d2 d3 d4; obtain ⟨f0, f1, f2, f3, f4, f5, f6, f7, f8, f9, f10⟩ := cells_a (CA.out w2 (grown_tr G1.out g2)); clear f0 f3 f4 f5 f6 f7 f8 f9 f10) | (refine store_row (ty := 24) (w.heap.size + 1) 0 (pa ⟨2, 1, s.sh, a.la + 1, s.gr, 0, s.ep, k⟩) rfl rfl ((CR.out w2 (grown_tr G1.out g2)).there (by simp)) (by kernel_rfl) (by simp [Value.oneCell']) ?_; intro w9 h9; have H9 : Hid (_ = _) := h9; clear h9))
        refine bodyPost_ret (v := .tuple #[pv ⟨2, 1, s.sh, a.la + 1, s.gr, 0, s.ep, k⟩, .int .i64 0]) ?_ rfl ?_
        · exact res_row2 (P := Try.prog) (fn := Try.f81) (p := 6) (u := 7) (ty := 24) rfl rfl (box_set (cs := pc ⟨2, 1, s.sh, a.la + 1, s.gr, 0, s.ep, k⟩) (CR.out w2 (grown_tr G1.out g2)) rfl H9.out) Try.underlying24 rfl (by kernel_rfl)
        · exact ⟨rfl, box_grown (grown_tr G0.out (grown_tr G1.out g2)) (by omega) H9.out⟩
end Go.Proofs.Ytlolhdijadhklaa
