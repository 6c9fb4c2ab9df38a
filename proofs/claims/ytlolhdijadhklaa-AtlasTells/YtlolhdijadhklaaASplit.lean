/- split. -/
import Derived.Test.YtlolhdijadhklaaAState
import Derived.Test.YtlolhdijadhklaaAIns
namespace Go.Proofs.Ytlolhdijadhklaa
open Go.RowKit Atl
set_option linter.unusedVariables false
set_option maxRecDepth 10000

theorem new_block (w : World) (o : Obj) : (w.alloc o).heap[w.heap.size]? = some o := by show (w.heap.push _)[w.heap.size]? = _; exact Array.getElem?_push_size
theorem chg_two {l : List Sp} {i : Nat} {s : Sp} (hs : l[i]? = some s) (x y : Sp) : (l.set i x).take (i + 1) ++ y :: (l.set i x).drop (i + 1) = chgL l i (i + 1) [x, y] := by
  have hi := (List.getElem?_eq_some_iff.1 hs).1
  unfold chgL
  have h1 : (l.set i x).take (i + 1) = l.take i ++ [x] := by
    rw [List.set_eq_take_append_cons_drop, if_pos hi]
    rw [List.take_append, List.length_take, Nat.min_eq_left (by omega), List.take_take, Nat.min_eq_right (by omega), show i + 1 - i = 1 by omega]
    rfl
  have h2 : (l.set i x).drop (i + 1) = l.drop (i + 1) := by rw [List.drop_set, if_pos (by omega)]
  rw [h1, h2]
  simp
/-- What is left of spans that are written over. -/
def LeftA (w : World) (base : Nat) (v : Value) (l : List Sp) (e : Ending) (w' : World) : Prop :=
  ∃ u : S3, e = .returned (.slice u.a u.n u.c) ∧ eS.Own w' base (.slice u.a u.n u.c) l ∧ (∀ k, (Value.slice u.a u.n u.c).ownBlock = some k → v.ownBlock = some k ∨ w.heap.size ≤ k) ∧ w.grownBy w' v.ownBlock
set_option maxRecDepth 100000 in
set_option maxHeartbeats 6400000 in
theorem split_any (g n c : Nat) (l : List Sp) (i : Nat) (s : Sp) (p : Pl) (w : World) (base : Nat) (hO : eS.Own w base (.slice (some ⟨g, 0, none⟩) n c) l) (hb : base ≤ w.heap.size) (hs : l[i]? = some s) (hl : l.length ≤ 4096) (e1 : 1 ≤ s.ep) (e2 : s.ep ≤ 1099511627776) :
    Calls Try.prog 102 #[.slice (some ⟨g, 0, none⟩) n c, .int .i64 (i : Int), pv p] w fun e w' => LeftA w base (.slice (some ⟨g, 0, none⟩) n c) (chgL l i (i + 1) [lowS p s, uppS p s]) e w' := by
  have hn : n = l.length := hO.len
  have hi := (List.getElem?_eq_some_iff.1 hs).1
  have hg := hO.lt g rfl
  obtain ⟨W0, hW0⟩ : ∃ W0, W0 = w.alloc (.cells (pa p) 24) := ⟨_, rfl⟩
  obtain ⟨q, hq⟩ : ∃ q, q = w.heap.size := ⟨_, rfl⟩
  have z0 : W0.heap.size = q + 1 := by rw [hW0, hq]; simp
  have G0 : w.grownBy W0 none := by rw [hW0]; exact World.grownBy_alloc _ _ none
  have P0 : Cs W0 q (pc p) := by rw [hq, hW0]; exact cs_new (grown_refl _ _)
  have O0 := hO.grown G0
  have c3 : W0.cell? ⟨g, i * 5 + 3, none⟩ = some (.int .i64 s.ep) := by
    have := (cells_s (range_in O0.rx hs)).2.2.2.1
    rwa [Nat.zero_add] at this
  -- the epoch
  obtain ⟨s1, hs1⟩ : ∃ s1 : Sp, s1 = ⟨s.fr, s.up, s.sh, s.ep + 1, s.gr⟩ := ⟨_, rfl⟩
  obtain ⟨W1, hW1⟩ : ∃ W1, W1 = W0.setCell ⟨g, i * 5 + 3, none⟩ (.int .i64 (s.ep + 1)) := ⟨_, rfl⟩
  have O1 : eS.Own W1 base (.slice (some ⟨g, 0, none⟩) n c) (l.set i s1) := by rw [hW1, hs1]; exact own_cell O0 hs 3 (by omega) _ rfl
  have g01 : W0.grownBy W1 (some g) := by rw [hW1]; exact grown_set _ _ _
  have z1 : W1.heap.size = q + 1 := by rw [hW1, size_set]; exact z0
  have h1 : (l.set i s1)[i]? = some s1 := by rw [List.getElem?_set_self hi]
  have R1 : W1.rangeAt g (i * 5) (sc s1) := by have := range_in O1.rx h1; rwa [Nat.zero_add] at this
  -- the upper part
  obtain ⟨W2, hW2⟩ : ∃ W2, W2 = W1.alloc (.cells (sa s1) 29) := ⟨_, rfl⟩
  have G2 : W1.grownBy W2 none := by rw [hW2]; exact World.grownBy_alloc _ _ none
  have z2 : W2.heap.size = q + 2 := by rw [hW2]; simp [z1]
  have B2 : Cs W2 (q + 1) (sc s1) := by rw [hW2, ← z1]; exact cs_new (grown_refl _ _)
  have P2 : Cs W2 q (pc p) := (P0.kept (Chg.of (F := fun k => k = g) g01 (fun k e => by injection e with e; exact e.symm)) (by omega) (by omega)).grown G2 (by omega)
  have O2 := O1.grown G2
  have B3 : Cs ((W2.setCell ⟨q + 1, 2, none⟩ (.int .i64 p.ot)).setCell ⟨q + 1, 0, none⟩ (.string p.key)) (q + 1) (sc (uppS p s)) := by
    have := (B2.set 2 (.int .i64 p.ot) (by simp)).set 0 (.string p.key) (by simp)
    rw [hs1] at this
    exact this
  have B3' : Cs ((W2.setCell ⟨q + 1, 0, none⟩ (.string p.key)).setCell ⟨q + 1, 2, none⟩ (.int .i64 p.ot)) (q + 1) (sc (uppS p s)) := by
    have := (B2.set 0 (.string p.key) (by simp)).set 2 (.int .i64 p.ot) (by simp)
    rw [hs1] at this
    exact this
  -- from here on, whichever was stored first
  have TAIL : Hid (∀ W3, Cs W3 (q + 1) (sc (uppS p s)) → W2.grownBy W3 (some (q + 1)) → W3.heap.size = q + 2 →
      W3.cell? ⟨q, 7, none⟩ = some (.string p.key) ∧ W3.frozen? ⟨g, i * 5 + 1, none⟩ = false ∧ W3.cell? ⟨g, i * 5 + 1, none⟩ = some (.string s.up) ∧
      (∀ W4, W4 = W3.setCell ⟨g, i * 5 + 1, none⟩ (.string p.key) → W4.rangeAt (q + 1) 0 (sc (uppS p s)) ∧ ∀ W5, W5 = W4.alloc (.cells (sa (uppS p s)) 29) → W4.heap.size = q + 2 ∧
        Calls Try.prog 109 #[.slice (some ⟨g, 0, none⟩) n c, .int .i64 ((i : Int) + 1), .slice (some ⟨q + 2, 0, none⟩) 1 1] W5 fun e w' => LeftA w base (.slice (some ⟨g, 0, none⟩) n c) (chgL l i (i + 1) [lowS p s, uppS p s]) e w')) := fun W3 C3 g23 z3 => by
    have cc := Chg.of (F := fun k => k = q + 1) g23 (fun k e => by injection e with e; exact e.symm)
    have P3 := P2.kept cc (by omega) (by omega)
    have O3 : eS.Own W3 base (.slice (some ⟨g, 0, none⟩) n c) (l.set i s1) := O2.but g23 (fun k hk e => by change some g = some k at hk; injection hk with hk; injection e with e; omega)
    obtain ⟨gg, cap, ev, rng, fz⟩ := O3.at_ h1
    injection ev with ev _ _
    injection ev with ev
    injection ev with ev _ _
    subst ev
    have f1 := rng 1 _ rfl
    refine ⟨P3.1 7 _ rfl, fz _, by change W3.cell? ⟨g, i * 5 + 1, none⟩ = _ at f1; rw [f1, hs1], fun W4 e4 => ?_⟩
    have O4 : eS.Own W4 base (.slice (some ⟨g, 0, none⟩) n c) ((l.set i s1).set i (lowS p s)) := by
      rw [e4]
      exact own_cell O3 h1 1 (by omega) _ (by rw [hs1]; rfl)
    rw [List.set_set] at O4
    have g34 : W3.grownBy W4 (some g) := by rw [e4]; exact grown_set _ _ _
    have z4 : W4.heap.size = q + 2 := by rw [e4, size_set]; exact z3
    have C4 := C3.kept (Chg.of (F := fun k => k = g) g34 (fun k e => by injection e with e; exact e.symm)) (by omega) (by omega)
    refine ⟨C4.1, fun W5 e5 => ⟨z4, ?_⟩⟩
    have O5 := O4.grown (by rw [e5]; exact World.grownBy_alloc _ _ none : W4.grownBy W5 none)
    have z5 : W5.heap.size = q + 3 := by rw [e5]; simp [z4]
    have v5 : W5.heap[q + 2]? = some (.cells (sa (uppS p s)) 29) := by rw [e5, ← z4]; exact new_block _ _
    have IN := insert_any (.slice (some ⟨g, 0, none⟩) n c) (l.set i (lowS p s)) (i + 1) (uppS p s) W5 base (q + 2) _ O5 (by omega) (by rw [List.length_set]; omega) (by rw [List.length_set]; exact hl) (fun j u hj => by rw [e5]; exact new_at _ z4.symm (by simpa using hj)) (fun k hk => by change some g = some k at hk; injection hk with hk; omega) v5
    rw [chg_two hs] at IN
    refine IN.mono ?_
    rintro e w6 ⟨u6, rfl, o6, g6, b6⟩
    refine ⟨u6, rfl, o6, fun k hk => by rcases b6 with h | h
                                        · rw [h] at hk; exact .inl hk
                                        · rw [h] at hk; injection hk with hk; exact .inr (by omega), ?_⟩
    refine grown_more (grown_more (grown_more (grown_more (World.grownBy.but G0 _) g01 (fun _ e => .inl e)) G2 (by simp)) g23 (fun k e => .inr (by injection e with e; omega))) ?_ (fun _ e => .inl e)
    exact grown_more (grown_more g34 (by rw [e5]; exact World.grownBy_alloc _ _ none : W4.grownBy W5 none) (by simp)) g6 (fun _ e => .inl e)
  have dW : IntKind.i64.wrap (s.ep + 1) = s.ep + 1 := by rw [IntKind.wrap_i64]; omega
  have dV : IntKind.i64.wrap ((i : Int) + 1) = (i : Int) + 1 := by rw [IntKind.wrap_i64]; omega
  have hiN : (i : Int) < (n : Int) := by omega
  have f3 : W0.frozen? ⟨g, i * 5 + 3, none⟩ = false := by
    obtain ⟨gg, cap, ev, rng, fz⟩ := O0.at_ hs
    injection ev with ev _ _
    injection ev with ev
    injection ev with ev _ _
    subst ev
    exact fz _
  have k3 := P2.1 3 _ rfl
  have k7 := P2.1 7 _ rfl
  have l0 := B2.1 0 _ rfl
  have l2 := B2.1 2 _ rfl
  simp only [Nat.zero_add] at k3 k7 l0 l2
  have fr := B2.2
  have HW0 : Hid (W0 = _) := hW0
  have HW1 : Hid (W1 = _) := hW1
  have HW2 : Hid (W2 = _) := hW2
  have HQ : Hid (q = w.heap.size) := hq
  have HZ1 : Hid (W1.heap.size = q + 1) := z1
  have HR1 : Hid (W1.rangeAt g (i * 5) (sc s1)) := R1
  have HB3 : Hid (Cs _ (q + 1) (sc (uppS p s))) := B3
  have HB4 : Hid (Cs _ (q + 1) (sc (uppS p s))) := B3'
  have HZ2 : Hid (W2.heap.size = q + 2) := z2
  have HS1 : Hid (s1 = _) := hs1
  clear hs1
  clear O0 O1 O2 G0 P0 g01 G2 B2 P2 B3 B3' hW0 hW1 hW2 hq z0 z1 z2 R1 h1 hO hb hs hg e1 e2 hn
  go_enter Try.func102, Try.ntmps102
  go_upto_region 1 with fail
  rw [← HQ.out, ← HW0.out]
  go_upto_region 3 with fail
  rw [← HW1.out]
  go_upto_region 4 with (refine load_s g (i * 5) s1 rfl HR1.out ?_)
  rw [← HW2.out, HZ1.out]
  go_region
  obtain ⟨W3, hW3⟩ : ∃ W3, W3 = ((W2.setCell ⟨q + 1, 2, none⟩ (.int .i64 p.ot)).setCell ⟨q + 1, 0, none⟩ (.string p.key)).drew := ⟨_, rfl⟩
  obtain ⟨c7, fz1, up1, T2⟩ := TAIL.out W3 (by rw [hW3]; exact HB3.out) (by rw [hW3]; exact grown_drew (grown_more (grown_set _ _ _) (grown_set _ _ _) (fun _ e => .inl e))) (by rw [hW3]; show (World.setCell _ _ _).heap.size = _; rw [size_set, size_set]; exact HZ2.out)
  rw [← hW3]
  have T3 : Hid (∀ W4, _ → _) := T2
  have HW3 : Hid (W3 = _) := hW3
  clear hW3 T2 TAIL k3 k7 l0 l2 fr
  go_upto_region 6 with fail
  obtain ⟨W4, hW4⟩ : ∃ W4, W4 = W3.setCell ⟨g, i * 5 + 1, none⟩ (.string p.key) := ⟨_, rfl⟩
  obtain ⟨r4, T4⟩ := T3.out W4 hW4
  obtain ⟨z4, C5⟩ := T4 _ rfl
  rw [← hW4]
  have R4 : Hid (W4.rangeAt (q + 1) 0 (sc (uppS p s))) := r4
  have Z4 : Hid (W4.heap.size = q + 2) := z4
  have HW4 : Hid (W4 = _) := hW4
  have HC5 : Hid (Calls Try.prog 109 #[.slice (some ⟨g, 0, none⟩) n c, .int .i64 ((i : Int) + 1), .slice (some ⟨q + 2, 0, none⟩) 1 1] (W4.alloc (.cells (sa (uppS p s)) 29)) fun e w' => LeftA w base (.slice (some ⟨g, 0, none⟩) n c) (chgL l i (i + 1) [lowS p s, uppS p s]) e w') := C5
  clear hW4 z4 C5 r4 T4 c7 fz1 up1
  generalize ht : uppS p s = t at *
  have HT : Hid (uppS p s = t) := ht
  clear ht
  go_wp2_with (first
    | (refine load_s (q + 1) 0 t rfl R4.out ?_)
    | (go_at_call 109; rw [Z4.out]; (with_reducible refine HC5.out.mono ?_); rintro e w6 ⟨u6, rfl, o6, b6, g6⟩))
  go_ret
  exact ⟨u6, rfl, by rw [HT.out]; exact o6, b6, g6⟩
end Go.Proofs.Ytlolhdijadhklaa
