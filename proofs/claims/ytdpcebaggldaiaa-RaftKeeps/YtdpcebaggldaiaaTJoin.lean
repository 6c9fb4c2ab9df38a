/- Grow, Concat, joined: two lists in new memory. -/
import Derived.Test.YtdpcebaggldaiaaTAgree
import Derived.Lib.AppendZerosOnto
import Derived.Deep.MidRow
import Derived.Carry
import Derived.Handy
namespace Go.Proofs.Ytdpcebaggldaiaa
open Go.RowKit Trl
set_option linter.unusedVariables false
set_option maxRecDepth 10000

/-- 'append(v, x...)' where there is room. -/
theorem run_append_fit {w : World} {base : Nat} {ad : Option Addr} {n c : Nat} {X : Value} {l0 l : List En} (hown : eE.Own w base (.slice ad n c) l0) (hX : eE.Rx w X l) (hb : l0.length + l.length ≤ c) (ty : TypeId) :
    ∃ n' w', (Builtin.append_ #[eE.sl, eE.sl] ty #[.slice ad n c, X]).run Try.prog w = .ok (.slice ad n' c) w' ∧ eE.Own w' base (.slice ad n' c) (l0 ++ l) ∧ w.grownBy w' (Value.slice ad n c).ownBlock := by
  obtain ⟨ii, hi, hz0, hz1, hz2⟩ := info_parts eE.hi
  rcases hX with ⟨rfl, rfl⟩ | ⟨a, c', rfl, hs, hc⟩
  · refine ⟨n, w, run_append_owned_none (P := Try.prog) (w := w) base eE.sl ty eE.el ii eE.size eE.hu hi _ l0.length (eE.cells l0) hown, by rw [List.append_nil]; exact hown, grown_refl _ _⟩
  · rcases hown.2 with ⟨e, h0⟩ | ⟨g, cap, cur, e, hbg, hg, hnc, hcm, hcs, htake⟩
    · injection e with e1 e2 e3
      subst e1 e2 e3
      have hl0 : l0 = [] := List.eq_nil_of_length_eq_zero (by omega)
      have hl : l = [] := List.eq_nil_of_length_eq_zero (by omega)
      subst hl0 hl
      refine ⟨0, w, ?_, Elm.nil _ _, grown_refl _ _⟩
      simp [Builtin.append_, run_underlying eE.hu, sizeOf, typeInfo, hi, Builtin.lenOf, Builtin.firstCells, loadCells, loadCellsFrom]
    · injection e with e1 e2 e3
      subst e1 e2 e3
      have hfit : l0.length * ii.size + (eE.cells l).length ≤ cur.size := by
        rw [Elm.cells_len, hcs, hz1, ← Nat.add_mul]
        exact Nat.mul_le_mul_right _ hb
      have hr := run_append_room (P := Try.prog) w eE.sl ty eE.el ii eE.hu hi g l0.length c cur hg a l.length c' (eE.cells l) (by rw [Elm.cells_len, hz1]) hc (eE.cells_one l) hb hfit
      have hlen : (eE.cells l0 ++ eE.cells l).length = (l0.length + l.length) * eE.size := by rw [List.length_append, Elm.cells_len, Elm.cells_len, Nat.add_mul]
      refine ⟨_, _, hr, ?_, ⟨rfl, rfl, rfl, by simp, fun k _ hk => setRow_other w g k _ (fun e => hk (by simp [Value.ownBlock, e]))⟩⟩
      unfold Elm.Own
      rw [Elm.cells_append, List.length_append]
      refine ⟨hlen, .inr ⟨g, c, _, rfl, hbg, setRow_heap w g cur _ _ _ hg, hb, hcm, ?_, ?_⟩⟩
      · simp only [List.size_toArray, List.length_append, List.length_take, List.length_drop, Array.length_toList]
        rw [hz1] at hfit ⊢
        omega
      · rw [hz1, htake, ← hlen]
        exact List.take_left
theorem wpList_append_fit {w : World} {ops : Array Oper} {rest : List Oper} {o : Oper} {a : Act} {Q : Exit → Act → World → Prop} (hgd : o.guard = none) (s x : Operand)
    (ho : o.op = .call { callee := .builtin .append, args := #[s, x], argTypes := #[eE.sl, eE.sl] }) (base : Nat) (ad : Option Addr) (n c : Nat) (l0 : List En) (hs : a.eval s = .slice ad n c) (hown : eE.Own w base (.slice ad n c) l0) (X : Value) (l : List En) (hx : a.eval x = X) (hX : eE.Rx w X l)
    (hb : l0.length + l.length ≤ c)
    (h : ∀ n' w', eE.Own w' base (.slice ad n' c) (l0 ++ l) → w.grownBy w' (Value.slice ad n c).ownBlock → wpList Try.prog ops Q rest (a.put o.dst (.slice ad n' c)) w') : wpList Try.prog ops Q (o :: rest) a w :=
  wpList_plain hgd fun K hK => by
    obtain ⟨n', w', hr, h2, h3⟩ := run_append_fit hown hX hb o.type
    unfold Oper.wp execOp
    simp only [ho, resolve, invoke, builtin, Sem.run_bind, Sem.run_pure, Result.andThen_ok, List.map_toArray, List.map_cons, List.map_nil, hs, hx, hr]
    exact hK _ _ (h n' w' h2 h3)
theorem wpList_append_run {w : World} {ops : Array Oper} {rest : List Oper} {o : Oper} {a : Act} {Q : Exit → Act → World → Prop} (hgd : o.guard = none) (s x : Operand) (t1 t2 : TypeId)
    (ho : o.op = .call { callee := .builtin .append, args := #[s, x], argTypes := #[t1, t2] }) (V X : Value) (hs : a.eval s = V) (hx : a.eval x = X) (v' : Value) (w' : World) (hr : ∀ ty, (Builtin.append_ #[t1, t2] ty #[V, X]).run Try.prog w = .ok v' w')
    (h : wpList Try.prog ops Q rest (a.put o.dst v') w') : wpList Try.prog ops Q (o :: rest) a w :=
  wpList_plain hgd fun K hK => by
    unfold Oper.wp execOp
    simp only [ho, resolve, invoke, builtin, Sem.run_bind, Sem.run_pure, Result.andThen_ok, List.map_toArray, List.map_cons, List.map_nil, hs, hx, hr]
    exact hK _ _ h
set_option maxRecDepth 100000 in
set_option maxHeartbeats 1600000 in
theorem grow_any (n : Nat) (w : World) (hn : n * 24 ≤ 281474976710656) :
    Calls Try.prog 81 #[.slice none 0 0, .int .i64 (n : Int)] w fun e w' => ∃ ad c, e = .returned (.slice ad 0 c) ∧ n ≤ c ∧ eE.Own w' w.heap.size (.slice ad 0 c) [] ∧ w.grownBy w' none := by
  by_cases h0 : n = 0
  · subst h0
    go_enter Try.func81, Try.ntmps81
    go_wp2_with fail
    go_ret
    exact ⟨none, 0, rfl, by omega, Elm.nil _ _, grown_refl _ _⟩
  · obtain ⟨ii, hi, hz0, hz1, hz2⟩ := info_parts eE.hi
    have hc0 : Builtin.nextslicecap n 0 = n := nextslicecap_zero (by omega)
    have hrz : ∀ ty, (Builtin.append_ #[23, 3] ty #[.slice none 0 0, .int .i64 (n : Int)]).run Try.prog w = _ := fun ty =>
      Lib.run_append_grow_zeros w 23 3 ty 34 ii eE.zero .i64 .i64 Try.underlying23 Try.underlying3 hi hz0 none 0 0 [] (run_firstCells_none w.drew ii.size 0 0 0) n (by omega) (by rw [hz1]; decide) (by omega) (by omega) (by rw [hz2]; exact hn) (by rw [Nat.zero_add, hc0, hz2]; exact hn)
    have hge := grownCap_ge w (0 + n) 0 34
    have hle : grownCap w (0 + n) 0 34 ≤ maxLen := grownCap_le_maxLen w (0 + n) 0 _ (by unfold maxLen; omega)
    have hown : ∀ C, C = grownCap w (0 + n) 0 34 → eE.Own (w.drew.alloc (.cells (([] : List Value).toArray ++ Builtin.zeroCells eE.zero.cells n ++ Builtin.zeroCells eE.zero.cells (C - (0 + n))) 34)) w.heap.size (.slice (some ⟨w.heap.size, 0, none⟩) 0 C) [] := fun C hC => by
      refine Elm.made (E := eE) w.drew _ _ _ rfl (by rw [hC]; exact hle) ?_
      have e1 : eE.zero.cells.size = 2 := rfl
      have e2 : eE.size = 2 := rfl
      simp only [Array.size_append, size_zeroCells, e1, e2]
      simp
      omega
    generalize hC : grownCap w (0 + n) 0 34 = C at *
    have hO := hown C rfl
    clear hown hi hz0 hz1 hz2 hC
    have hC63 : C ≤ 9223372036854775807 := by unfold maxLen at hle; omega
    have hg : w.grownBy (w.drew.alloc (.cells (([] : List Value).toArray ++ Builtin.zeroCells eE.zero.cells n ++ Builtin.zeroCells eE.zero.cells (C - (0 + n))) 34)) none := grown_alloc (grown_drew (grown_refl w none)) _
    generalize w.drew.alloc (.cells (([] : List Value).toArray ++ Builtin.zeroCells eE.zero.cells n ++ Builtin.zeroCells eE.zero.cells (C - (0 + n))) 34) = w1 at *
    rw [Nat.zero_add] at hrz hge
    clear hle hc0
    go_enter Try.func81, Try.ntmps81
    go_wp2_with (refine wpList_append_run rfl (.tmp 20) (.tmp 21) 23 3 rfl (.slice none 0 0) (.int .i64 (n : Int)) rfl rfl _ w1 hrz ?_)
    go_ret
    exact ⟨_, C, rfl, hge, hO, hg⟩
/-- What lies in the box of the two lists. -/
def Bx (w : World) (q : Nat) (u v : Value) : Prop := w.cell? ⟨q, 0, none⟩ = some u ∧ w.cell? ⟨q, 1, none⟩ = some v
theorem Bx.grown {w w' : World} {q : Nat} {u v : Value} (h : Bx w q u v) (g : w.grownBy w' none) : Bx w' q u v := ⟨g.cell h.1 (by simp), g.cell h.2 (by simp)⟩
set_option maxRecDepth 100000 in
set_option maxHeartbeats 1600000 in
theorem concat_any (q : Nat) (u v : Value) (l m : List En) (w : World) (hq : Bx w q u v) (hu : Sl w u l) (hv : Sl w v m) (hn : (l.length + m.length) * 24 ≤ 281474976710656) :
    Calls Try.prog 75 #[.slice (some ⟨q, 0, none⟩) 2 2] w fun e w' => ∃ a n c, e = .returned (.slice a n c) ∧ eE.Own w' w.heap.size (.slice a n c) (l ++ m) ∧ w.grownBy w' none := by
  obtain ⟨ad, c, hv1, hlc, hc, _⟩ := id hu
  subst hv1
  obtain ⟨aq, cq, hv1, hmc, hcq, _⟩ := id hv
  subst hv1
  obtain ⟨N, hN⟩ : ∃ N, l.length = N := ⟨_, rfl⟩
  have NL : Hid (l.length = N) := hN
  obtain ⟨M, hM⟩ : ∃ M, m.length = M := ⟨_, rfl⟩
  have ML : Hid (m.length = M) := hM
  rw [hN] at hu hlc hq hn
  rw [hM] at hv hmc hq hn
  have HU : Hid (Sl w (.slice ad N c) l) := hu
  have HV : Hid (Sl w (.slice aq M cq) m) := hv
  have HQ : Hid (Bx w q (.slice ad N c) (.slice aq M cq)) := hq
  obtain ⟨q0, q1⟩ := hq
  have GR := grow_any (N + M) w hn
  rw [show ((N + M : Nat) : Int) = (N : Int) + (M : Int) by omega] at GR
  clear hu hv hN hM
  go_enter Try.func75, Try.ntmps75
  go_wp2_with fail
  go_loopw [3, 5, 11] (fun s _ i wr => ((s = .int .i64 0 ∧ i = .int .i64 0) ∨ (s = .int .i64 (N : Int) ∧ i = .int .i64 1) ∨ (s = .int .i64 ((N : Int) + (M : Int)) ∧ i = .int .i64 2)) ∧ wr = w) (fun _ _ i _ => 2 - (intOf i).toNat)
  case atStart => exact ⟨.inl ⟨rfl, rfl⟩, rfl⟩
  case round =>
    obtain ⟨⟨rfl, rfl⟩ | ⟨rfl, rfl⟩ | ⟨rfl, rfl⟩, rfl⟩ := hrel
    · clear GR
      go_wp2_with fail
      go_roundw
      case rel => exact ⟨.inr (.inl ⟨by go_num, rfl⟩), trivial⟩
      case measure => simp [intOf]
    · clear GR
      go_wp2_with fail
      go_roundw
      case rel => exact ⟨.inr (.inr ⟨by go_num, rfl⟩), trivial⟩
      case measure => simp [intOf]
    · rename World => wz
      go_wp2_with (go_at_call 81; (with_reducible refine GR.mono ?_); rintro e w1 ⟨a6, c6, rfl, hc6, hO6, hg6⟩)
      have O6 : Hid (eE.Own w1 wz.heap.size (.slice a6 0 c6) []) := hO6
      have G6 : Hid (wz.grownBy w1 none) := hg6
      clear hO6 hg6 GR q0 q1
      go_loopw [6, 8, 27] (fun s _ i wr => Hid (wz.grownBy wr none) ∧ ((i = .int .i64 0 ∧ ∃ n, s = .slice a6 n c6 ∧ Hid (eE.Own wr wz.heap.size (.slice a6 n c6) [])) ∨ (i = .int .i64 1 ∧ ∃ n, s = .slice a6 n c6 ∧ Hid (eE.Own wr wz.heap.size (.slice a6 n c6) l)) ∨ (i = .int .i64 2 ∧ ∃ n, s = .slice a6 n c6 ∧ Hid (eE.Own wr wz.heap.size (.slice a6 n c6) (l ++ m))))) (fun _ _ i _ => 2 - (intOf i).toNat)
      case atStart => exact ⟨G6, .inl ⟨rfl, 0, rfl, O6⟩⟩
      case round =>
        clear G6 O6
        obtain ⟨G, ⟨rfl, n, rfl, O⟩ | ⟨rfl, n, rfl, O⟩ | ⟨rfl, n, rfl, O⟩⟩ := hrel
        · obtain ⟨q0, q1⟩ := HQ.out.grown G.out
          have X := (HU.out.grown G.out).rx
          go_wp2_with (refine wpList_append_fit rfl (.tmp 31) (.tmp 32) rfl wz.heap.size a6 n c6 [] rfl O.out _ l rfl X (by have := NL.out; simp; omega) ?_; intro n' w' hO' hg'; have G' := grown_more G.out hg' (fun k e => .inr (O.out.lt k e).1))
          go_roundw
          case rel => exact ⟨G', .inr (.inl ⟨rfl, n', rfl, hO'⟩)⟩
          case measure => simp [intOf]
        · obtain ⟨q0, q1⟩ := HQ.out.grown G.out
          have X := (HV.out.grown G.out).rx
          go_wp2_with (refine wpList_append_fit rfl (.tmp 31) (.tmp 32) rfl wz.heap.size a6 n c6 l rfl O.out _ m rfl X (by have := NL.out; have := ML.out; omega) ?_; intro n' w' hO' hg'; have G' := grown_more G.out hg' (fun k e => .inr (O.out.lt k e).1))
          go_roundw
          case rel => exact ⟨G', .inr (.inr ⟨rfl, n', rfl, hO'⟩)⟩
          case measure => simp [intOf]
        · go_wp2_with fail
          go_ret
          exact ⟨a6, n, c6, rfl, O.out, G.out⟩
theorem bx_new {X : World} {u v : Value} {t : TypeId} {q : Nat} (hq : q = X.heap.size) : Bx (X.alloc (.cells #[u, v] t)) q u v := ⟨new_at X hq rfl, new_at X hq rfl⟩
theorem Bx.drew {X : World} {u v : Value} {q : Nat} (h : Bx X q u v) : Bx X.drew q u v := h
/-- The box of the log that came in and that of the answer. -/
theorem two_kept {w W : World} {b k z0 z1 : Int} {v z2 : Value} {t : TypeId} (g : ((w.alloc (.cells #[.int .i64 b, .int .i64 k, v] t)).alloc (.cells #[.int .i64 z0, .int .i64 z1, z2] t)).grownBy W none) :
    (W.cell? ⟨w.heap.size, 0, none⟩ = some (.int .i64 b) ∧ W.cell? ⟨w.heap.size, 1, none⟩ = some (.int .i64 k) ∧ W.cell? ⟨w.heap.size, 2, none⟩ = some v) ∧
    (W.cell? ⟨w.heap.size + 1, 0, none⟩ = some (.int .i64 z0) ∧ W.cell? ⟨w.heap.size + 1, 1, none⟩ = some (.int .i64 z1) ∧ W.cell? ⟨w.heap.size + 1, 2, none⟩ = some z2) ∧ (∀ i, W.frozen? ⟨w.heap.size + 1, i, none⟩ = false) ∧ w.heap.size + 1 < W.heap.size := by
  have h1 := g.size
  have e : (w.alloc (.cells #[.int .i64 b, .int .i64 k, v] t)).heap.size = w.heap.size + 1 := by simp
  have h2 := box_kept (grown_tr (World.grownBy_alloc _ _ none) g)
  have h3 := box_kept g
  rw [e] at h3
  refine ⟨h2, h3, fun i => ?_, by simp at h1; omega⟩
  have := frozen_kept g i
  rw [e] at this
  exact this
theorem range3 {w : World} {q : Nat} {b k : Int} {v : Value} (h0 : w.cell? ⟨q, 0, none⟩ = some (.int .i64 b)) (h1 : w.cell? ⟨q, 1, none⟩ = some (.int .i64 k)) (h2 : w.cell? ⟨q, 2, none⟩ = some v) : w.rangeAt q 0 [.int .i64 b, .int .i64 k, v] := fun j u hu => by
  match j, hu with
  | 0, hu => simp at hu; subst hu; exact h0
  | 1, hu => simp at hu; subst hu; exact h1
  | 2, hu => simp at hu; subst hu; exact h2
  | j + 3, hu => simp at hu
/-- A log is answered out of its box. -/
theorem fin1 {fn : Func} {p : Tmp} {w : World} {q : Nat} {b k : Int} {v : Value} {tmps : Array Value} {Q : Ending → World → Prop} (h : fn.results = #[.cell p 25]) (hp : tmps.getD p undef = .pointer (some ⟨q, 0, none⟩)) (hr : w.rangeAt q 0 [.int .i64 b, .int .i64 k, v]) (hv : v.oneCell' = true) (hQ : Q (.returned (tv b k v)) w) : bodyPost Try.prog fn Q .ret ⟨tmps, []⟩ w := by
  have := run_loadVar_mid (P := Try.prog) w q 0 25 [.int .i64 b, .int .i64 k, v] _ hr Try.underlying25 rfl (by kernel_rfl)
  have hp' : tmps[p]?.getD undef = .pointer (some ⟨q, 0, none⟩) := by simpa using hp
  refine bodyPost_ret (v := tv b k v) ?_ rfl hQ
  simp [results, h, hp', asAddr, this]
theorem fin2 {fn : Func} {p u : Tmp} {w : World} {q : Nat} {b k : Int} {v : Value} {tmps : Array Value} {Q : Ending → World → Prop} (h : fn.results = #[.cell p 25, .tmp u]) (hp : tmps.getD p undef = .pointer (some ⟨q, 0, none⟩)) (hr : w.rangeAt q 0 [.int .i64 b, .int .i64 k, v]) (hv : v.oneCell' = true) (hQ : Q (.returned (.tuple #[tv b k v, tmps.getD u undef])) w) : bodyPost Try.prog fn Q .ret ⟨tmps, []⟩ w := by
  have := run_loadVar_mid (P := Try.prog) w q 0 25 [.int .i64 b, .int .i64 k, v] _ hr Try.underlying25 rfl (by kernel_rfl)
  refine bodyPost_ret (v := .tuple #[tv b k v, tmps.getD u undef]) ?_ rfl hQ
  rw [results_cell_tmp h, hp]
  simp only [asAddr, Sem.run_pure, Result.andThen_ok, this]
/-- A log laid into a box. -/
theorem put3 {w : World} {q : Nat} {u0 u1 u2 a b c : Value} (h0 : w.cell? ⟨q, 0, none⟩ = some u0) (h1 : w.cell? ⟨q, 1, none⟩ = some u1) (h2 : w.cell? ⟨q, 2, none⟩ = some u2) :
    (((w.setCell ⟨q, 0, none⟩ a).setCell ⟨q, 1, none⟩ b).setCell ⟨q, 2, none⟩ c).cell? ⟨q, 0, none⟩ = some a ∧ (((w.setCell ⟨q, 0, none⟩ a).setCell ⟨q, 1, none⟩ b).setCell ⟨q, 2, none⟩ c).cell? ⟨q, 1, none⟩ = some b ∧ (((w.setCell ⟨q, 0, none⟩ a).setCell ⟨q, 1, none⟩ b).setCell ⟨q, 2, none⟩ c).cell? ⟨q, 2, none⟩ = some c ∧ w.grownBy (((w.setCell ⟨q, 0, none⟩ a).setCell ⟨q, 1, none⟩ b).setCell ⟨q, 2, none⟩ c) (some q) := by
  refine ⟨?_, ?_, ?_, ?_⟩
  · rw [set_other (by simp), set_other (by simp)]; exact set_same h0
  · rw [set_other (by simp)]; exact set_same (u := u1) (by rw [set_other (by simp)]; exact h1)
  · exact set_same (u := u2) (by rw [set_other (by simp), set_other (by simp)]; exact h2)
  · exact grown_more (grown_more (grown_set w ⟨q, 0, none⟩ a) (grown_set _ ⟨q, 1, none⟩ b) (fun k e => .inl e)) (grown_set _ ⟨q, 2, none⟩ c) (fun k e => .inl e)
end Go.Proofs.Ytdpcebaggldaiaa
