/- The reference's 'Advance'. -/
import Derived.Test.YtijgekdhjfbgkaaWRefM
import Derived.Deep.CutBlock
namespace Go.Proofs.Ytijgekdhjfbgkaa
open Go.RowKit Go.Sort Whl
set_option linter.unusedVariables false
namespace Whl
theorem due_take {tt : Int} {L : List It} (h : Srt L) {n : Nat} (h1 : ∀ j a, j < n → L[j]? = some a → a.2 ≤ tt) (h2 : ∀ a, L[n]? = some a → tt < a.2) : dueL tt L = L.take n ∧ restL tt L = L.drop n := by
  have lo : ∀ a ∈ L.take n, a.2 ≤ tt := fun a ha => by
    obtain ⟨j, hj, e⟩ := List.mem_iff_getElem.1 ha
    rw [List.length_take] at hj
    rw [List.getElem_take] at e
    exact h1 j a (by omega) (by rw [List.getElem?_eq_getElem (by omega), e])
  have hi : ∀ a ∈ L.drop n, tt < a.2 := fun a ha => by
    obtain ⟨j, hj, e⟩ := List.mem_iff_getElem.1 ha
    rw [List.length_drop] at hj
    rw [List.getElem_drop] at e
    have hn : n < L.length := by omega
    have b := h2 L[n] (List.getElem?_eq_getElem hn)
    by_cases e0 : j = 0
    · subst e0; rw [← e]; exact b
    · have c := List.pairwise_iff_getElem.1 h n (n + j) hn (by omega) (by omega)
      rw [e, bef_iff] at c
      omega
  have e : L = L.take n ++ L.drop n := (List.take_append_drop n L).symm
  constructor
  · unfold dueL
    conv => lhs; rw [e]
    rw [List.filter_append, List.filter_eq_self.2 (fun a ha => by simpa using lo a ha), List.filter_eq_nil_iff.2 (fun a ha => by have := hi a ha; simp; omega), List.append_nil]
  · unfold restL
    conv => lhs; rw [e]
    rw [List.filter_append, List.filter_eq_nil_iff.2 (fun a ha => by have := lo a ha; simp; omega), List.filter_eq_self.2 (fun a ha => by simpa using hi a ha), List.nil_append]
end Whl
theorem own_form {w : World} {base : Nat} {v : Value} {l : List It} (h : w.ownsRow base 33 2 v l.length (cells l)) : ∃ ad c, v = .slice ad l.length c := by
  rcases h.2 with ⟨e, h0⟩ | ⟨g, cap, cur, e, _⟩
  · exact ⟨_, _, by rw [e, h0]⟩
  · exact ⟨_, _, e⟩
theorem RW.store {w : World} {q : Nat} {now : Int} {L : List It} {v : Value} (h0 : w.cell? ⟨q, 0, none⟩ = some (.int .i64 now)) {x : Value} (h1 : w.cell? ⟨q, 1, none⟩ = some x) (fr : ∀ i, w.frozen? ⟨q, i, none⟩ = false) (O : w.ownsRow 0 33 2 v L.length (cells L)) (hv : v.ownBlock ≠ some q) :
    RW (w.setCell ⟨q, 1, none⟩ v) q now L (fun k => k = q ∨ v.ownBlock = some k) := by
  have gs := grown_set w ⟨q, 1, none⟩ v
  refine ⟨⟨v, set_same h1, kept_ne O gs (fun k hk e => hv (by rw [hk]; exact e.symm)), hv, fun k hk => .inr hk⟩, (set_other (by simp)).trans h0, fun i => (World.frozen?_setCell _ _ _ _).trans (fr i), .inl rfl, fun k hk => ?_⟩
  rw [size_set]
  rcases hk with e | e
  · rw [e]; exact World.block_lt_of_cell? w _ h0
  · exact (O.lt k e).2

set_option maxRecDepth 100000 in
set_option maxHeartbeats 1600000 in
theorem radv_bad (q : Nat) (now tt : Int) (h : tt < now ∨ 226157759 < tt) (w : World) (c0 : w.cell? ⟨q, 0, none⟩ = some (.int .i64 now)) :
    Calls Try.prog 15 #[.pointer (some ⟨q, 0, none⟩), .int .i64 tt] w fun e w' => e = .returned (.tuple #[.slice none 0 0, .int .i64 30]) ∧ w' = w := by
  by_cases h1 : tt < now
  · clear h
    go_enter Try.func15, Try.ntmps15
    go_wp2
    go_ret2
    exact ⟨rfl, rfl⟩
  · have d1 : decide (tt < now) = false := decide_eq_false h1
    have d2 : 226157759 < tt := by omega
    clear h h1
    go_enter Try.func15, Try.ntmps15
    go_wp2
    go_ret2
    exact ⟨rfl, rfl⟩

set_option maxRecDepth 100000 in
set_option maxHeartbeats 3200000 in
theorem radv_ok (q : Nat) (now tt : Int) (L : List It) (G : Nat → Prop) (hO : Ok now L) (t1 : now ≤ tt) (t2 : tt ≤ 226157759) (w : World) (h : RW w q now L G) :
    Calls Try.prog 15 #[.pointer (some ⟨q, 0, none⟩), .int .i64 tt] w fun e w' => ∃ ad m c, e = .returned (.tuple #[.slice ad m c, .int .i64 0]) ∧ w'.ownsRow w.heap.size 33 2 (.slice ad m c) (dueL tt L).length (cells (dueL tt L)) ∧ ∃ G', RW w' q tt (restL tt L) G' ∧ (∀ k, G' k → G k ∨ w.heap.size ≤ k) ∧ (∀ k, (Value.slice ad m c).ownBlock = some k → ¬ G' k) ∧ Chg G w w' := by
  obtain ⟨v, h1, O, hq, hG⟩ := h.ex
  obtain ⟨ad, cp, rfl⟩ := own_form O
  have hlen := hO.len
  have HO : Hid (Srt L) := hO.srt
  have c0 := h.c0
  have fr := h.fr
  have gq := h.gq
  have hqlt : q < w.heap.size := h.lt q h.gq
  have d1 : decide (tt < now) = false := decide_eq_false (by omega)
  have d2 : decide (tt > 226157759) = false := decide_eq_false (by omega)
  have d3 : decide (226157759 < tt) = false := decide_eq_false (by omega)
  obtain ⟨w1, hw1⟩ : ∃ w1, w1 = w.setCell ⟨q, 0, none⟩ (.int .i64 tt) := ⟨_, rfl⟩
  have gs : w.grownBy w1 (some q) := by rw [hw1]; exact grown_set w _ _
  have k0 : w1.cell? ⟨q, 0, none⟩ = some (.int .i64 tt) := by rw [hw1]; exact set_same c0
  have k1 : w1.cell? ⟨q, 1, none⟩ = some (.slice ad L.length cp) := by rw [hw1]; exact (set_other (by simp)).trans h1
  have kf : ∀ i, w1.frozen? ⟨q, i, none⟩ = false := fun i => by rw [hw1]; exact (World.frozen?_setCell _ _ _ _).trans (fr i)
  have O1 : w1.ownsRow 0 33 2 (.slice ad L.length cp) L.length (cells L) := kept_ne O gs (fun k hk e => hq (by rw [hk]; exact e.symm))
  have hz1 : Hid (w1.heap.size = w.heap.size) := by show _ = _; rw [hw1, size_set]
  have fr0 := fr 0
  clear h hO
  go_enter Try.func15, Try.ntmps15
  go_upto_block 0 with fail
  rw [← hw1]
  clear hw1 h1 O c0 fr0
  go_cut [6] from 22 to 42 (fun i wx => w1 = wx ∧ ∃ n : Nat, i = .int .i64 n ∧ n ≤ L.length ∧ dueL tt L = L.take n ∧ restL tt L = L.drop n)
  case first =>
    go_wp2_with fail
    go_loopw [6] (fun i wr => ∃ n : Nat, n ≤ L.length ∧ i = .int .i64 n ∧ w1 = wr ∧ Hid (∀ (j : Nat) (a : It), j < n → L[j]? = some a → a.2 ≤ tt)) (fun i _ => (9000 - intOf i).toNat)
    case atStart => exact ⟨0, by omega, rfl, rfl, fun j a hj => absurd hj (by omega)⟩
    case round =>
      obtain ⟨n, hn, rfl, rfl, HL⟩ := hrel
      by_cases hlt : n < L.length
      · obtain ⟨a, han⟩ : ∃ a, L[n]? = some a := ⟨L[n], List.getElem?_eq_getElem hlt⟩
        obtain ⟨g, o, hix, cx, cy⟩ := (Ri.of_own O1).idx han
        have HA : Hid (L[n]? = some a) := han
        clear han
        by_cases hat : a.2 ≤ tt
        · go_wp2_with fail
          go_roundw
          case rel => exact ⟨n + 1, by omega, by go_num, (by first | exact rfl | trivial), fun j b hj hb => by
            by_cases e : j = n
            · subst e; rw [HA.out] at hb; cases hb; exact hat
            · exact HL.out j b (by omega) hb⟩
          case measure => simp [intOf]; omega
        · have hd : decide (a.2 ≤ tt) = false := decide_eq_false hat
          go_wp2_with fail
          go_meet
          have e := due_take HO.out HL.out (fun b hb => by rw [HA.out] at hb; cases hb; omega)
          exact ⟨rfl, n, rfl, hn, e.1, e.2⟩
      · have hd : decide ((n : Int) < L.length) = false := decide_eq_false (by omega)
        go_wp2_with fail
        go_meet
        have e := due_take HO.out HL.out (fun b hb => by have := (List.getElem?_eq_some_iff.1 hb).1; omega)
        exact ⟨rfl, n, rfl, hn, e.1, e.2⟩
  case rest =>
    obtain ⟨rfl, n, rfl, hn, e1, e2⟩ := hcut
    obtain ⟨u1, s1, P1, b1⟩ := own_upto O1 hn
    obtain ⟨u2, s2, X2, b2⟩ := own_from O1 hn
    have X1 := Rx.of_own P1
    have lt1 : (L.take n).length ≤ 4096 := by rw [List.length_take]; omega
    have lt2 : (L.drop n).length ≤ 4096 := by rw [List.length_drop]; omega
    have hq1 : q < w1.heap.size := World.block_lt_of_cell? w1 _ k0
    have tok1 : True := trivial
    go_wp2_with (first
      | (with_reducible refine wpList_upto rfl rfl s1 ?_)
      | (with_reducible refine wpList_from rfl rfl s2 ?_)
      | (have _t := tok1; refine wpList_append_rx rfl (.tmp 43) (.tmp 49) rfl w1.heap.size _ [] rfl (own_empty w1 _ rfl) u1 (L.take n) rfl (X1.grown (World.grownBy_alloc w1 _ none)) (by simp at lt1 ⊢; omega) (by simp) ?_; intro ad2 m2 c2 w2 O2 G2 r2; clear tok1; have tok2 : True := trivial; have K2 : w1.grownBy w2 none := grown_more (World.grownBy_alloc w1 _ none) G2 (fun k hk => .inr (by have hk : some w1.heap.size = some k := hk; injection hk with hk; omega)); have k20 := K2.cell k0 (by simp); have k21 := K2.cell k1 (by simp); have X22 := X2.grown K2; have hq2 : q < w2.heap.size := World.block_lt_of_cell? w2 _ k20)
      | (have _t := tok2; refine wpList_append_rx rfl (.tmp 52) (.tmp 58) rfl w2.heap.size _ [] rfl (own_empty w2 _ rfl) u2 (L.drop n) rfl (X22.grown (World.grownBy_alloc w2 _ none)) (by simp at lt2 ⊢; omega) (by simp) ?_; intro ad3 m3 c3 w3 O3 G3 r3; clear tok2; have K3 : w2.grownBy w3 none := grown_more (World.grownBy_alloc w2 _ none) G3 (fun k hk => .inr (by have hk : some w2.heap.size = some k := hk; injection hk with hk; omega)); have k30 := K3.cell k20 (by simp); have k31 := K3.cell k21 (by simp); have kf3 : ∀ i, w3.frozen? ⟨q, i, none⟩ = false := (fun i => by rw [World.frozen?_of_block (w := w2) (K3.block q (World.block_lt_of_cell? w2 _ k20) (by simp)), World.frozen?_of_block (w := w1) (K2.block q (World.block_lt_of_cell? w1 _ k0) (by simp))]; exact kf i); have kf31 := kf3 1))
    go_ret2
    have hz2 := K2.size
    have hz3 := K3.size
    have hzz := hz1.out
    have O23 : w3.ownsRow w1.heap.size 33 2 (.slice ad2 m2 c2) (L.take n).length (cells (L.take n)) := kept_ne (O2.alloc _) G3 (fun k hk e => by have := (O2.lt k hk).2; have e : some w2.heap.size = some k := e; injection e with e; omega)
    have q3 : ∀ k, (Value.slice ad3 m3 c3).ownBlock = some k → w2.heap.size ≤ k := fun k hk => (O3.lt k hk).1
    have R := RW.store (L := L.drop n) k30 k31 kf3 (owns_low O3 (Nat.zero_le _)) (fun e => by have := q3 q e; omega)
    have gs3 := grown_set w3 ⟨q, 1, none⟩ (Value.slice ad3 m3 c3)
    have C1 : Chg G w w1 := Chg.of gs fun k hk => by injection hk with hk; rw [← hk]; exact gq
    have C3 : Chg G w (w3.setCell ⟨q, 1, none⟩ (.slice ad3 m3 c3)) := ((C1.grown K2 (by simp)).grown K3 (by simp)).grown gs3 fun k hk => .inl (by injection hk with hk; rw [← hk]; exact gq)
    refine ⟨ad2, m2, c2, rfl, ?_, _, (by rw [e2]; exact R), fun k hk => ?_, fun k hk c => ?_, C3⟩
    · rw [e1, ← hzz]
      exact kept_ne O23 gs3 (fun k hk e => by have := (O2.lt k hk).1; have e : some q = some k := e; injection e with e; omega)
    · rcases hk with e | e
      · rw [e]; exact .inl gq
      · have := q3 k e; exact .inr (by omega)
    · have a1 := (O2.lt k hk)
      rcases c with e | e
      · omega
      · have := q3 k e; omega
end Go.Proofs.Ytijgekdhjfbgkaa
