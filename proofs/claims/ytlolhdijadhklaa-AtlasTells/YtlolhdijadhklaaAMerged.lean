/- merged. -/
import Derived.Test.YtlolhdijadhklaaASplit
import Derived.Test.YtlolhdijadhklaaADel
namespace Go.Proofs.Ytlolhdijadhklaa
open Go.RowKit Atl
set_option linter.unusedVariables false
set_option maxRecDepth 10000

theorem max_if (x y : Int) : (if x < y then y else x) = max x y := by
  by_cases h : x < y
  · rw [if_pos h]; omega
  · rw [if_neg h]; omega
theorem erase_chg {l : List Sp} {i : Nat} (hi : i + 1 < l.length) (x : Sp) : (l.set i x).eraseIdx (i + 1) = chgL l i (i + 2) [x] := by
  unfold chgL
  rw [List.eraseIdx_eq_take_drop_succ, List.drop_set, if_pos (by omega), List.set_eq_take_append_cons_drop, if_pos (by omega), List.take_append, List.length_take, Nat.min_eq_left (by omega), List.take_take, Nat.min_eq_right (by omega), show i + 1 - i = 1 by omega]
  rfl
set_option maxRecDepth 100000 in
set_option maxHeartbeats 6400000 in
theorem merged_any (g n c : Nat) (l : List Sp) (i : Nat) (s t : Sp) (w : World) (base : Nat) (hO : eS.Own w base (.slice (some ⟨g, 0, none⟩) n c) l) (hb : base ≤ w.heap.size) (hs : l[i]? = some s) (ht : l[i + 1]? = some t) (hl : l.length ≤ 512) (e1 : 1 ≤ max s.ep t.ep) (e2 : max s.ep t.ep ≤ 1099511627776) :
    Calls Try.prog 103 #[.slice (some ⟨g, 0, none⟩) n c, .int .i64 (i : Int)] w fun e w' => LeftA w base (.slice (some ⟨g, 0, none⟩) n c) (chgL l i (i + 2) [mrgS s t]) e w' := by
  have hn : n = l.length := hO.len
  have hi := (List.getElem?_eq_some_iff.1 hs).1
  have hi1 := (List.getElem?_eq_some_iff.1 ht).1
  have hg := hO.lt g rfl
  obtain ⟨q, hq⟩ : ∃ q, q = w.heap.size := ⟨_, rfl⟩
  have R0 : w.rangeAt g ((i + 1) * 5) (sc t) := by have := range_in hO.rx ht; rwa [Nat.zero_add] at this
  obtain ⟨W1, hW1⟩ : ∃ W1, W1 = (w.alloc (.cells (sa t) 29)).drew := ⟨_, rfl⟩
  have G1 : w.grownBy W1 none := by rw [hW1]; exact grown_drew (World.grownBy_alloc _ _ none)
  have z1 : W1.heap.size = q + 1 := by rw [hW1, hq]; show (w.alloc _).heap.size = _; simp
  have B1 : Cs W1 q (sc t) := by rw [hq, hW1]; exact cs_new (grown_drew (grown_refl _ _))
  have O1 := hO.grown G1
  obtain ⟨W2, hW2⟩ : ∃ W2, W2 = W1.setCell ⟨g, i * 5 + 1, none⟩ (.string t.up) := ⟨_, rfl⟩
  have O2 : eS.Own W2 base (.slice (some ⟨g, 0, none⟩) n c) (l.set i ⟨s.fr, t.up, s.sh, s.ep, s.gr⟩) := by rw [hW2]; exact own_cell O1 hs 1 (by omega) _ rfl
  have g12 : W1.grownBy W2 (some g) := by rw [hW2]; exact grown_set _ _ _
  have h2 : (l.set i (⟨s.fr, t.up, s.sh, s.ep, s.gr⟩ : Sp))[i]? = some ⟨s.fr, t.up, s.sh, s.ep, s.gr⟩ := by rw [List.getElem?_set_self hi]
  have B2 : Cs W2 q (sc t) := B1.kept (Chg.of (F := fun k => k = g) g12 (fun k e => by injection e with e; exact e.symm)) (by omega) (by omega)
  obtain ⟨W3, hW3⟩ : ∃ W3, W3 = W2.setCell ⟨g, i * 5 + 3, none⟩ (.int .i64 (max s.ep t.ep + 1)) := ⟨_, rfl⟩
  have O3 : eS.Own W3 base (.slice (some ⟨g, 0, none⟩) n c) (l.set i (mrgS s t)) := by
    rw [hW3]
    have := own_cell O2 h2 3 (by omega) (.int .i64 (max s.ep t.ep + 1)) (x' := mrgS s t) rfl
    rwa [List.set_set] at this
  have g23 : W2.grownBy W3 (some g) := by rw [hW3]; exact grown_set _ _ _
  have D3 : Hid (Calls Try.prog 110 #[.slice (some ⟨g, 0, none⟩) n c, .int .i64 ((i : Int) + 1), .int .i64 ((i : Int) + 2)] W3.drew fun e w' => LeftA w base (.slice (some ⟨g, 0, none⟩) n c) (chgL l i (i + 2) [mrgS s t]) e w') := by
    have := del_any (.slice (some ⟨g, 0, none⟩) n c) (l.set i (mrgS s t)) (i + 1) W3.drew base (O3.grown (grown_drew (grown_refl _ _))) (by rw [List.length_set]; exact hi1) (by rw [List.length_set]; exact hl)
    rw [erase_chg hi1] at this
    have e5 : (((i + 1 : Nat) : Int) + 1) = (i : Int) + 2 := by omega
    have e6 : (((i + 1 : Nat) : Int)) = (i : Int) + 1 := by omega
    rw [e5, e6] at this
    refine this.mono ?_
    rintro e w6 ⟨ad, n6, c6, rfl, o6, g6, b6⟩
    refine ⟨⟨ad, n6, c6⟩, rfl, o6, fun k hk => .inl (by rw [b6] at hk; exact hk), ?_⟩
    exact grown_more (grown_more (grown_more (World.grownBy.but G1 _) g12 (fun _ e => .inl e)) g23 (fun _ e => .inl e)) (grown_more (World.grownBy.but (grown_drew (grown_refl _ _)) _) g6 (fun _ e => .inl e)) (fun _ e => .inl e)
  obtain ⟨gg, cap, ev, rng, fz⟩ := O1.at_ hs
  injection ev with ev en ec
  clear en ec
  injection ev with ev
  injection ev with ev _ _
  subst ev
  have u1 : W1.cell? ⟨g, i * 5 + 1, none⟩ = some (.string s.up) := rng 1 _ rfl
  have fz1 := fz (i * 5 + 1)
  obtain ⟨gg, cap2, ev, rng2, fz'⟩ := O2.at_ h2
  injection ev with ev en ec
  clear en ec
  injection ev with ev
  injection ev with ev _ _
  subst ev
  have u3 : W2.cell? ⟨g, i * 5 + 3, none⟩ = some (.int .i64 s.ep) := rng2 3 _ rfl
  have fz3 := fz' (i * 5 + 3)
  have b1 := B1.1 1 _ rfl
  have b3 := B2.1 3 _ rfl
  simp only [Nat.zero_add] at b1 b3
  have dW : IntKind.i64.wrap (max s.ep t.ep + 1) = max s.ep t.ep + 1 := by rw [IntKind.wrap_i64]; omega
  have hM := max_if s.ep t.ep
  have dV : IntKind.i64.wrap ((i : Int) + 1) = (i : Int) + 1 := by rw [IntKind.wrap_i64]; omega
  have dU : IntKind.i64.wrap ((i : Int) + 2) = (i : Int) + 2 := by rw [IntKind.wrap_i64]; omega
  have hiN : (i : Int) < (n : Int) := by omega
  have hiM : (i : Int) + 1 < (n : Int) := by omega
  have hi0 : 0 ≤ (i : Int) + 1 := by omega
  have nE : ((i : Int) + 1).toNat = i + 1 := by omega
  have HR0 : Hid (w.drew.rangeAt g ((i + 1) * 5) (sc t)) := R0
  have HW1 : Hid (W1 = _) := hW1
  have HW2 : Hid (W2 = _) := hW2
  have HW3 : Hid (W3 = _) := hW3
  have HQ : Hid (q = w.heap.size) := hq
  clear O1 O2 O3 G1 g12 g23 B1 B2 hW1 hW2 hW3 hq z1 R0 h2 hO hb hs ht hg e1 e2 hn rng rng2 hl
  go_enter Try.func103, Try.ntmps103
  obtain ⟨r0, r1, r2, r3, r4⟩ := cells_s HR0.out
  have ZZ : Hid (∀ W, (w.alloc (.cells (sa zS) 29)).grownBy W none → W.rangeAt g ((i + 1) * 5) (sc t)) := fun W gr j v hj => (grown_tr (World.grownBy_alloc w (.cells (sa zS) 29) none) gr).cell (HR0.out j v hj) (by simp)
  obtain ⟨y0, y1, y2, y3, y4⟩ := cells_s (ZZ.out ((w.alloc (.cells #[.string ⟨#[]⟩, .string ⟨#[]⟩, .int .i64 0, .int .i64 0, .int .i64 0] 29)).drew) (grown_drew (grown_refl _ _)))
  go_wp2_with fail
  go_region
  rw [← HW1.out, ← HQ.out]
  clear r0 r1 r2 r3 r4 y0 y1 y2 y3 y4 ZZ
  go_upto_region 3 with fail
  rw [← HW2.out]
  go_region
  rw [← HW3.out]
  go_wp2_with (go_at_call 110; (with_reducible refine D3.out.mono ?_); rintro e w6 ⟨u6, rfl, o6, b6, g6⟩)
  go_ret
  exact ⟨u6, rfl, o6, b6, g6⟩
end Go.Proofs.Ytlolhdijadhklaa
