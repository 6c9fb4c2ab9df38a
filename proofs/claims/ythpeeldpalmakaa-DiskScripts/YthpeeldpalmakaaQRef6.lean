/- The reference's Append. -/
import Derived.Test.YthpeeldpalmakaaQRef5
namespace Go.Proofs.Ythpeeldpalmakaa
open Go.RowKit Dsk
set_option linter.unusedVariables false

namespace Elm
variable {α : Type} {E : Elm α}
/-- 'v[k:]', read. -/
theorem frm {w : World} {base : Nat} {v : Value} {L : List α} (h : E.Own w base v L) {k : Nat} (hk : k ≤ L.length) :
    ∃ ad c, (∀ W, (Instr.sliceAt E.sl v (some (.int .i64 (k : Int))) none none).run Try.prog W = .ok (.slice ad (L.length - k) c) W) ∧ E.Rx w (.slice ad (L.length - k) c) (L.drop k) := by
  have ht : Try.prog.underlying E.sl = some (.slice (Try.prog.elem E.sl)) := by rw [E.he]; exact E.hu
  have run : ∀ a n c W, k ≤ n → (Instr.sliceAt E.sl (.slice a n c) (some (.int .i64 (k : Int))) none none).run Try.prog W = .ok (sliced a k n c E.size) W := fun a n c W hn => by
    rw [run_sliceAt_slice W E.sl _ _ _ _ ht, run_slice_l W E.sl a n c ht .i64 (k : Int) (by omega) (by omega), E.he, E.so W]
    show Result.ok (sliced a (k : Int).toNat n c E.size) W = _
    rw [Int.toNat_natCast]
  rcases h.2 with ⟨e, h0⟩ | ⟨g, cap, cur, e, hg, hh, h1, h2, h3, h4⟩
  · have hL : L = [] := List.eq_nil_of_length_eq_zero h0
    subst hL
    have hk0 : k = 0 := by simpa using hk
    subst hk0
    refine ⟨none, 0, fun W => ?_, .inl ⟨rfl, rfl⟩⟩
    rw [e, run none 0 0 W (by omega)]
    rfl
  · have cellAt : ∀ t x, (E.cells (L.drop k))[t]? = some x → w.cell? ((⟨g, k * E.size, none⟩ : Addr).add t) = some x := fun t x hx => by
      rw [cells_drop, List.getElem?_drop] at hx
      have := World.ownsRow.cells h (g := g) (by rw [e]; rfl) (k * E.size + t) x hx
      rw [Addr.add_lit, Nat.zero_add] at this
      rw [Addr.add_lit]
      exact this
    by_cases hc : cap = k
    · have hd : L.drop k = [] := List.drop_eq_nil_of_le (by omega)
      refine ⟨some ⟨g, 0, none⟩, 0, fun W => ?_, .inr ⟨⟨g, 0, none⟩, 0, by rw [hd, show L.length - k = 0 by omega]; rfl, .inl hd, fun t x hx => by rw [hd] at hx; simp [cells_nil] at hx⟩⟩
      rw [e, run _ _ _ W hk]
      unfold sliced
      rw [if_pos hc, show L.length - k = 0 by omega, show cap - k = 0 by omega]
    · refine ⟨some ⟨g, k * E.size, none⟩, cap - k, fun W => ?_, .inr ⟨⟨g, k * E.size, none⟩, cap - k, by rw [List.length_drop], .inr rfl, cellAt⟩⟩
      rw [e, run _ _ _ W hk]
      unfold sliced
      rw [if_neg hc]
      show Result.ok (Value.slice (some ((⟨g, 0, none⟩ : Addr).add (k * E.size))) _ _) W = _
      rw [Addr.add_lit, Nat.zero_add]
end Elm
set_option maxRecDepth 100000 in
set_option maxHeartbeats 1600000 in
theorem rapp_bad (q : Nat) (x : List UInt8) (hx : x.length ≤ 140737488351232) (v : Value) (hb : isNm x = false) (w : World) :
    Calls Try.prog 10 #[.pointer (some ⟨q, 0, none⟩), .string ⟨x.toArray⟩, v] w fun e w' => e = .returned (.int .i64 1) ∧ w' = w := by
  have NM := named_any ⟨x.toArray⟩ (by simpa [ByteArray.size] using hx) w
  rw [show isNm (⟨x.toArray⟩ : ByteArray).data.toList = false from hb] at NM
  go_enter Try.func10, Try.ntmps10
  go_wp2_with (go_at_call 24; (with_reducible refine NM.mono ?_); rintro e w1 ⟨rfl, rfl⟩)
  go_ret
  exact ⟨rfl, rfl⟩
set_option maxRecDepth 100000 in
set_option maxHeartbeats 1600000 in
theorem rapp_full (q : Nat) (vN vL : Value) (N : List (List UInt8)) (L : List Rw) (x : List UInt8) (hx : x.length ≤ 140737488351232) (ad : Option Addr) (n c : Nat) (hn : n ≤ 140737488351232) (hb : isNm x = true) (hN : N.length ≤ 64) (hL : L.length ≤ 1000000) (ht : rtot L ≤ 1048576) (hf : (rhas N x = false ∧ 64 ≤ N.length) ∨ 1048576 < rtot L + n) (w : World) (h : RfD w q vN vL N L) :
    Calls Try.prog 10 #[.pointer (some ⟨q, 0, none⟩), .string ⟨x.toArray⟩, .slice ad n c] w fun e w' => e = .returned (.int .i64 3) ∧ w' = w := by
  have NM := named_any ⟨x.toArray⟩ (by simpa [ByteArray.size] using hx) w
  rw [show isNm (⟨x.toArray⟩ : ByteArray).data.toList = true from hb] at NM
  have HS := rhas_any q vN vL N L x hN w h
  have TT := rtotal_any q vN vL N L hL ht w h
  obtain ⟨aN, cN, rfl⟩ := Elm.form h.oN
  have c0 := h.c0
  change Calls _ _ _ _ fun e w' => e = .returned (.bool (rhas N x)) ∧ w' = w at HS
  generalize rtot L = t at TT ht hf
  clear h hb hL
  cases hh : rhas N x with
  | true =>
    rw [hh] at HS hf
    have hf2 : 1048576 < t + n := by rcases hf with ⟨e, _⟩ | e; cases e; exact e
    have q1 : (1048576 : Int) < (t : Int) + (n : Int) := by omega
    clear hf hh
    go_enter Try.func10, Try.ntmps10
    go_wp2_with (first
      | (go_at_call 24; (with_reducible refine NM.mono ?_); rintro e w1 ⟨rfl, e1⟩; have e1' := e1.symm; clear e1; subst e1')
      | (go_at_call 25; (with_reducible refine HS.mono ?_); rintro e w1 ⟨rfl, e1⟩; have e1' := e1.symm; clear e1; subst e1')
      | (go_at_call 26; (with_reducible refine TT.mono ?_); rintro e w1 ⟨rfl, e1⟩; have e1' := e1.symm; clear e1; subst e1'))
    go_ret
    exact ⟨rfl, rfl⟩
  | false =>
    rw [hh] at HS
    by_cases h64 : 64 ≤ N.length
    · have q1 : (64 : Int) ≤ (N.length : Int) := by omega
      have q2 : ¬ N.length < 64 := by omega
      clear hf hh
      go_enter Try.func10, Try.ntmps10
      go_wp2_with (first
        | (go_at_call 24; (with_reducible refine NM.mono ?_); rintro e w1 ⟨rfl, e1⟩; have e1' := e1.symm; clear e1; subst e1')
        | (go_at_call 25; (with_reducible refine HS.mono ?_); rintro e w1 ⟨rfl, e1⟩; have e1' := e1.symm; clear e1; subst e1'))
      go_ret
      exact ⟨rfl, rfl⟩
    · have hf2 : 1048576 < t + n := by rcases hf with ⟨_, e⟩ | e; omega; exact e
      have q1 : (1048576 : Int) < (t : Int) + (n : Int) := by omega
      have q3 : ¬ (64 : Int) ≤ (N.length : Int) := by omega
      clear hf hh
      go_enter Try.func10, Try.ntmps10
      go_wp2_with (first
        | (go_at_call 24; (with_reducible refine NM.mono ?_); rintro e w1 ⟨rfl, e1⟩; have e1' := e1.symm; clear e1; subst e1')
        | (go_at_call 25; (with_reducible refine HS.mono ?_); rintro e w1 ⟨rfl, e1⟩; have e1' := e1.symm; clear e1; subst e1')
        | (go_at_call 26; (with_reducible refine TT.mono ?_); rintro e w1 ⟨rfl, e1⟩; have e1' := e1.symm; clear e1; subst e1'))
      go_ret
      exact ⟨rfl, rfl⟩
/-- 'Own', in dot's form. -/
def _root_.Go.World.eROwn (w : World) (v : Value) (l : List Rw) : Prop := eR.Own w 0 v l
/-- What the new write leaves. -/
def PutOut (q : Nat) (vL : Value) (L : List Rw) (x l : List UInt8) (w w' : World) : Prop := ∃ w7 vL', w' = w7.setCell ⟨q, 1, none⟩ vL' ∧ w.grownBy w7 vL.ownBlock ∧ eR.Own w7 0 vL' (L ++ [⟨x, l, false⟩]) ∧ (vL'.ownBlock = vL.ownBlock ∨ ∃ k, vL'.ownBlock = some k ∧ w.heap.size ≤ k)
set_option maxRecDepth 100000 in
set_option maxHeartbeats 1600000 in
theorem rapp_old (q : Nat) (vN vL : Value) (N : List (List UInt8)) (L : List Rw) (x : List UInt8) (hx : x.length ≤ 140737488351232) (ad : Option Addr) (n c : Nat) (l : List UInt8) (hl : n = l.length) (hb : isNm x = true) (hN : N.length ≤ 64) (hL : L.length ≤ 1000000) (ht : rtot L + n ≤ 1048576) (hf : rhas N x = true) (w : World) (h : RfD w q vN vL N L) (hX : eB.Rx w (.slice ad n c) l) :
    Calls Try.prog 10 #[.pointer (some ⟨q, 0, none⟩), .string ⟨x.toArray⟩, .slice ad n c] w fun e w' => e = .returned (.int .i64 0) ∧ PutOut q vL L x l w w' := by
  subst hl
  have NM := named_any ⟨x.toArray⟩ (by simpa [ByteArray.size] using hx) w
  rw [show isNm (⟨x.toArray⟩ : ByteArray).data.toList = true from hb] at NM
  have HS := rhas_any q vN vL N L x hN w h
  have TT := rtotal_any q vN vL N L hL (by omega) w h
  change Calls _ _ _ _ fun e w' => e = .returned (.bool (rhas N x)) ∧ w' = w at HS
  rw [hf] at HS
  generalize rtot L = t at TT ht
  have q1 : ¬ (1048576 : Int) < (t : Int) + (l.length : Int) := by omega
  have H : Hid (RfD w q vN vL N L) := h
  clear hb h
  go_enter Try.func10, Try.ntmps10
  go_upto_region 13 with (first
    | (go_at_call 24; (with_reducible refine NM.mono ?_); rintro e w1 ⟨rfl, e1⟩; have e1' := e1.symm; clear e1; subst e1')
    | (go_at_call 25; (with_reducible refine HS.mono ?_); rintro e w1 ⟨rfl, e1⟩; have e1' := e1.symm; clear e1; subst e1')
    | (go_at_call 26; (with_reducible refine TT.mono ?_); rintro e w1 ⟨rfl, e1⟩; have e1' := e1.symm; clear e1; subst e1'))
  clear NM HS TT hx
  have c1 : w.cell? ⟨q, 1, none⟩ = some vL := H.out.c1
  have qw : q < w.heap.size := World.block_lt_of_cell? w _ c1
  have y0 : (convert 31 9 (.slice ad l.length c)).run Try.prog w.drew = .ok (.string ⟨l.toArray⟩) w.drew := run_string (w := w.drew) hX
  have nq : some q ≠ vL.ownBlock := fun e => H.out.nL e.symm
  have OL7 : ∀ o, (w.alloc o).drew.eROwn vL L := fun o => H.out.oL.grown (grown_drew (World.grownBy_alloc w o none))
  have RW7 : eR.Rx (w.alloc (Obj.cells #[.string ⟨x.toArray⟩, .string ⟨l.toArray⟩, .bool false] 51)).drew (.slice (some ⟨w.heap.size, 0, none⟩) 1 1) [⟨x, l, false⟩] := rx_rw w ⟨x, l, false⟩ _ rfl
  have kb : Hid (∀ {o1 w7}, (w.alloc o1).drew.grownBy w7 vL.ownBlock → w.grownBy w7 vL.ownBlock ∧ w7.cell? ⟨q, 1, none⟩ = some vL ∧ w7.frozen? ⟨q, 1, none⟩ = false) := fun {o1 w7} g => by
    have g' : w.grownBy w7 vL.ownBlock := grown_more ((grown_drew (World.grownBy_alloc w o1 none)).but _) g (fun _ e => .inl e)
    exact ⟨g', g'.cell c1 nq, by rw [World.frozen?_of_block (w := w) (a := ⟨q, 1, none⟩) (g'.block q qw nq)]; exact H.out.fr 1⟩
  have hwl : (L.length + [(⟨x, l, false⟩ : Rw)].length) * 40 ≤ 140737488355328 := by simp; omega
  have hwl2 : L.length + [(⟨x, l, false⟩ : Rw)].length ≤ 4611686018427387904 := by simp; omega
  have c1d : w.drew.cell? ⟨q, 1, none⟩ = some vL := c1
  clear hX
  go_region_law (refine step_of rfl (Elm.wp_append (E := eR) (.tmp 89) (.tmp 94) rfl 0 vL L rfl (OL7 _) _ [⟨x, l, false⟩] rfl RW7 hwl2 hwl (Nat.zero_le _) ?_); intro ad3 n3 cp3 w7 O7 G7' L7; have G7 := (kb.out G7').1; have k71 := (kb.out G7').2.1; have f71 := (kb.out G7').2.2)
  all_goals
    go_wp2
    go_ret
    refine ⟨rfl, w7, _, rfl, G7, O7, ?_⟩
    rcases L7 with e | e
    · exact .inl e
    · exact .inr ⟨_, e, by show _ ≤ (World.alloc _ _).heap.size; simp⟩
/-- The reference's disk while its names are written anew. -/
structure Mid (w w4 : World) (q : Nat) (vN vL v4 : Value) (N4 : List (List UInt8)) (L : List Rw) : Prop where
  rf : RfD w4 q v4 vL N4 L
  bl : v4.ownBlock = vN.ownBlock ∨ ∃ j, v4.ownBlock = some j ∧ w.heap.size ≤ j
  ch : Chg (fun j => j = q ∨ vN.ownBlock = some j) w w4
theorem Mid.put {w w4 w5 : World} {q : Nat} {vN vL v4 v5 : Value} {N4 N5 : List (List UInt8)} {L : List Rw} (M : Mid w w4 q vN vL v4 N4 L) (g : w4.grownBy w5 v4.ownBlock) (o : eS.Own w5 0 v5 N5) (hb : v5.ownBlock = v4.ownBlock ∨ ∃ j, v5.ownBlock = some j ∧ w4.heap.size ≤ j) :
    w5.cell? ⟨q, 0, none⟩ = some v4 ∧ w5.frozen? ⟨q, 0, none⟩ = false ∧ Mid w (w5.setCell ⟨q, 0, none⟩ v5) q vN vL v5 N5 L := by
  have nq : some q ≠ v4.ownBlock := fun e => M.rf.nN e.symm
  have qw : q < w4.heap.size := World.block_lt_of_cell? w4 _ M.rf.c0
  have k0 : w5.cell? ⟨q, 0, none⟩ = some v4 := g.cell M.rf.c0 nq
  have kf : ∀ i, w5.frozen? ⟨q, i, none⟩ = false := fun i => by rw [World.frozen?_of_block (w := w4) (a := ⟨q, i, none⟩) (g.block q qw nq)]; exact M.rf.fr i
  have gs := grown_set w5 ⟨q, 0, none⟩ v5
  have n5 : v5.ownBlock ≠ some q := fun e => by
    rcases hb with h | ⟨j, h, hj⟩
    · exact M.rf.nN (h ▸ e)
    · rw [h] at e; injection e with e; omega
  have oL : eR.Own w5 0 vL L := M.rf.oL.but g fun k hk e => M.rf.ap k e hk
  refine ⟨k0, kf 0, ⟨⟨set_same k0, (set_other (by simp)).trans (g.cell M.rf.c1 nq), fun i => (World.frozen?_setCell _ _ _ _).trans (kf i), o.but gs fun k hk e => n5 (by injection e with e; have e2 : q = k := e; rw [e2]; exact hk), oL.but gs fun k hk e => M.rf.nL (by injection e with e; have e2 : q = k := e; rw [e2]; exact hk), n5, M.rf.nL, fun k hk e => ?_⟩, ?_, ?_⟩⟩
  · rcases hb with h | ⟨j, h, hj⟩
    · exact M.rf.ap k (h ▸ hk) e
    · rw [h] at hk; injection hk with hk
      have := (M.rf.oL.lt k e).2
      omega
  · rcases hb with h | ⟨j, h, hj⟩
    · rw [h]; exact M.bl
    · exact .inr ⟨j, h, Nat.le_trans M.ch.size hj⟩
  · refine (M.ch.grown g fun k hk => ?_).grown gs fun k hk => .inl (.inl (by injection hk with hk; exact hk.symm))
    rcases M.bl with h | ⟨j, h, hj⟩
    · exact .inl (.inr (h ▸ hk))
    · rw [h] at hk; injection hk with hk; exact .inr (by omega)
/-- Where a new name belongs. -/
def Spot (N : List (List UInt8)) (x : List UInt8) (k : Nat) : Prop := k ≤ N.length ∧ (∀ y ∈ N.take k, Op.bytesLess y x = true) ∧ ∀ y, N[k]? = some y → Op.bytesLess y x = false
set_option maxRecDepth 100000 in
set_option maxHeartbeats 1600000 in
theorem rapp_no (q : Nat) (vN vL : Value) (N : List (List UInt8)) (L : List Rw) (x : List UInt8) (hx : x.length ≤ 140737488351232) (ad : Option Addr) (n c : Nat) (l : List UInt8) (hl : n = l.length) (hb : isNm x = true) (hN : N.length ≤ 64) (hL : L.length ≤ 1000000) (ht : rtot L + n ≤ 1048576) (hf : rhas N x = false) (h64 : N.length < 64) (w : World) (h : RfD w q vN vL N L) (hX : eB.Rx w (.slice ad n c) l) (hdj : l ≠ [] → ∀ j, (Value.slice ad n c).ownBlock = some j → j ≠ q ∧ vN.ownBlock ≠ some j) :
    Calls Try.prog 10 #[.pointer (some ⟨q, 0, none⟩), .string ⟨x.toArray⟩, .slice ad n c] w fun e w' => e = .returned (.int .i64 0) ∧ ∃ k w6 vN6, Spot N x k ∧ RfD w6 q vN6 vL (N.take k ++ x :: N.drop k) L ∧ (vN6.ownBlock = vN.ownBlock ∨ ∃ j, vN6.ownBlock = some j ∧ w.heap.size ≤ j) ∧ Chg (fun j => j = q ∨ vN.ownBlock = some j) w w6 ∧ PutOut q vL L x l w6 w' := by
  subst hl
  have NM := named_any ⟨x.toArray⟩ (by simpa [ByteArray.size] using hx) w
  rw [show isNm (⟨x.toArray⟩ : ByteArray).data.toList = true from hb] at NM
  have HS := rhas_any q vN vL N L x hN w h
  have TT := rtotal_any q vN vL N L hL (by omega) w h
  obtain ⟨aN, cN, rfl⟩ := Elm.form h.oN
  have c0 := h.c0
  change Calls _ _ _ _ fun e w' => e = .returned (.bool (rhas N x)) ∧ w' = w at HS
  rw [hf] at HS
  generalize rtot L = t at TT ht
  have q1 : ¬ (1048576 : Int) < (t : Int) + (l.length : Int) := by omega
  have q3 : ¬ (64 : Int) ≤ (N.length : Int) := by omega
  clear hb
  go_enter Try.func10, Try.ntmps10
  go_upto_region 6 with (first
    | (go_at_call 24; (with_reducible refine NM.mono ?_); rintro e w1 ⟨rfl, e1⟩; have e1' := e1.symm; clear e1; subst e1')
    | (go_at_call 25; (with_reducible refine HS.mono ?_); rintro e w1 ⟨rfl, e1⟩; have e1' := e1.symm; clear e1; subst e1')
    | (go_at_call 26; (with_reducible refine TT.mono ?_); rintro e w1 ⟨rfl, e1⟩; have e1' := e1.symm; clear e1; subst e1'))
  clear NM HS TT hx
  have f0 := h.fr 0
  have f1 := h.fr 1
  have qw : q < w.heap.size := World.block_lt_of_cell? w _ c0
  have H : Hid (RfD w q (.slice aN N.length cN) vL N L) := h
  clear h
  go_upto_block 0 with fail
  go_cut [8] from 36 to 55 (fun v wx => wx = w ∧ ∃ k : Nat, v = .int .i64 k ∧ Spot N x k)
  case first =>
    go_wp2_with fail
    go_loopw [8] (fun v wx => wx = w ∧ ∃ k : Nat, v = .int .i64 k ∧ k ≤ N.length ∧ ∀ y ∈ N.take k, Op.bytesLess y x = true) (fun i _ => N.length - (intOf i).toNat)
    case atStart => exact ⟨rfl, 0, rfl, by omega, by simp⟩
    case round =>
      obtain ⟨e0, k, rfl, hk, hle⟩ := hrel
      have HLE : Hid (∀ y ∈ N.take k, Op.bytesLess y x = true) := hle
      clear hle
      have e1 := e0.symm
      clear e0
      subst e1
      by_cases hlt : k < N.length
      · obtain ⟨y, hy⟩ : ∃ y, N[k]? = some y := ⟨_, List.getElem?_eq_getElem hlt⟩
        obtain ⟨g, o, h1, h2, _⟩ := H.out.oN.idx (by omega) hy
        have h1' : ∀ W, (Instr.indexAt 27 (.slice aN N.length cN) (.int .i64 (k : Int))).run Try.prog W = .ok (.pointer (some ⟨g, o, none⟩)) W := h1
        have z0 : w.cell? ⟨g, o, none⟩ = some (.string ⟨y.toArray⟩) := h2 0 _ rfl
        have HY : Hid (N[k]? = some y) := hy
        clear h1 h2 hy
        cases hB : Op.bytesLess y x with
        | true =>
          go_wp2_with fail
          go_roundw
          case rel =>
            refine ⟨by trivial, k + 1, by go_num, by omega, fun z hz => ?_⟩
            rw [List.take_add_one, HY.out] at hz
            rcases List.mem_append.1 hz with e | e
            · exact HLE.out z e
            · simp at e; rw [e]; exact hB
          case measure => simp [intOf]; omega
        | false =>
          go_wp2_with fail
          go_meet
          exact ⟨rfl, k, rfl, hk, HLE.out, fun z hz => by rw [HY.out] at hz; injection hz with hz; rw [← hz]; exact hB⟩
      · go_wp2_with fail
        go_meet
        exact ⟨rfl, k, rfl, hk, HLE.out, fun z hz => absurd (List.getElem?_eq_some_iff.1 hz).1 hlt⟩
  case rest =>
    obtain ⟨e0, k, rfl, HSP⟩ := hcut
    have e1 := e0.symm
    clear e0
    subst e1
    have HSP2 : Hid (Spot N x k) := HSP
    have hk : k ≤ N.length := HSP.1
    clear HSP
    obtain ⟨a1, d1, hsl, hR1⟩ := Elm.frm (E := eS) H.out.oN hk
    obtain ⟨a2, d2, hsu, hO2, hob⟩ := Elm.upto (E := eS) H.out.oN hk
    have hsl' : ∀ W, (Instr.sliceAt 27 (.slice aN N.length cN) (some (.int .i64 (k : Int))) none none).run Try.prog W = .ok (.slice a1 (N.length - k) d1) W := hsl
    have hsu' : ∀ W, (Instr.sliceAt 27 (.slice aN N.length cN) none (some (.int .i64 (k : Int))) none).run Try.prog W = .ok (.slice a2 k d2) W := hsu
    clear hsl hsu
    have M0 : eS.Own (w.alloc (Obj.cells #[] 9)) w.heap.size (.slice (some ⟨w.heap.size, 0, none⟩) 0 0) [] := Elm.made (E := eS) w #[] 0 _ rfl (by decide) rfl
    have R0 : ∀ ob, eS.Rx (w.alloc ob) (.slice a1 (N.length - k) d1) (N.drop k) := fun ob => hR1.grown (World.grownBy_alloc w ob none)
    have HM0 : Hid (Mid w w q (.slice aN N.length cN) vL (.slice aN N.length cN) N L) := ⟨H.out, .inl rfl, Chg.refl _ _⟩
    have P2 : Hid (∀ {ob w2}, (w.alloc ob).grownBy w2 (Value.slice (some ⟨w.heap.size, 0, none⟩) 0 0).ownBlock → w.grownBy w2 none ∧ w2.cell? ⟨q, 0, none⟩ = some (.slice aN N.length cN) ∧ ∀ o2, eS.Own (w2.alloc o2) 0 (.slice a2 k d2) (N.take k)) := fun {ob w2} g => by
      have g2 : w.grownBy w2 none := grown_more (World.grownBy_alloc w ob none) g (fun b e => .inr (by have e2 : some w.heap.size = some b := e; injection e2 with e2; omega))
      exact ⟨g2, g2.cell c0 (by simp), fun o2 => (hO2.grown g2).grown (World.grownBy_alloc w2 o2 none)⟩
    have P3 : Hid (∀ {w2 o2 w3 v3 v4}, w.grownBy w2 none → eS.Own w2 w.heap.size v3 ([] ++ N.drop k) → eS.Own w3 0 v4 (N.take k ++ [x]) → (w2.alloc o2).grownBy w3 (Value.slice a2 k d2).ownBlock → (v4.ownBlock = (Value.slice a2 k d2).ownBlock ∨ v4.ownBlock = some (w2.alloc o2).heap.size) → (w3.cell? ⟨q, 0, none⟩ = some (.slice aN N.length cN) ∧ w3.frozen? ⟨q, 0, none⟩ = false) ∧ Mid w (w3.setCell ⟨q, 0, none⟩ v4) q (.slice aN N.length cN) vL v4 (N.take k ++ [x]) L ∧ eS.Rx (w3.setCell ⟨q, 0, none⟩ v4) v3 (N.drop k)) := fun {w2 o2 w3 v3 v4} g2 o3 o4 g4 l4 => by
      have M2 : Mid w w2 q (.slice aN N.length cN) vL (.slice aN N.length cN) N L := ⟨H.out.grown g2, .inl rfl, Chg.of g2 (by simp)⟩
      rw [hob] at g4 l4
      have g4' : w2.grownBy w3 (Value.slice aN N.length cN).ownBlock := grown_more ((World.grownBy_alloc w2 o2 none).but _) g4 (fun _ e => .inl e)
      obtain ⟨e1, e2, e3⟩ := M2.put g4' o4 (l4.imp id fun e => ⟨_, e, by simp⟩)
      refine ⟨⟨e1, e2⟩, e3, ?_⟩
      have lt := H.out.oN.lt
      have o3' : eS.Own w3 w.heap.size v3 ([] ++ N.drop k) := o3.but g4' fun j hj e => by
        have := (lt j e).2
        have := (o3.lt j hj).1
        omega
      have o3'' := o3'.but (grown_set w3 ⟨q, 0, none⟩ v4) fun j hj e => by
        have e2 : some q = some j := e
        injection e2 with e'
        have := (o3.lt j hj).1
        omega
      exact o3''.rx
    have P5 : Hid (∀ {w4 w5 v4 v5}, Mid w w4 q (.slice aN N.length cN) vL v4 (N.take k ++ [x]) L → eS.Own w5 0 v5 ((N.take k ++ [x]) ++ N.drop k) → w4.grownBy w5 v4.ownBlock → (v5.ownBlock = v4.ownBlock ∨ v5.ownBlock = some w4.heap.size) → (w5.cell? ⟨q, 0, none⟩ = some v4 ∧ w5.frozen? ⟨q, 0, none⟩ = false) ∧ Mid w (w5.setCell ⟨q, 0, none⟩ v5) q (.slice aN N.length cN) vL v5 (N.take k ++ x :: N.drop k) L) := fun {w4 w5 v4 v5} m o g hb => by
      rw [List.append_assoc] at o
      obtain ⟨e1, e2, e3⟩ := m.put g o (hb.imp id fun e => ⟨_, e, Nat.le_refl _⟩)
      exact ⟨⟨e1, e2⟩, e3⟩
    have lk : (N.take k).length + [x].length ≤ 65 := by rw [List.length_take]; simp; omega
    have ld : ([] : List (List UInt8)).length + (N.drop k).length ≤ 64 := by rw [List.length_drop]; simp; omega
    have lm : (N.take k ++ [x]).length + (N.drop k).length ≤ 65 := by simp; omega
    clear hR1 hO2 hob
    go_upto_region 13 with (first
      | (at_builtin; refine Elm.wpList_append (E := eS) rfl (.tmp 56) (.tmp 62) rfl w.heap.size (.slice (some ⟨w.heap.size, 0, none⟩) 0 0) [] rfl M0 _ (N.drop k) rfl (R0 _) (by omega) (by show _ * 16 ≤ _; omega) (by simp) ?_; intro a3 n3 d3 w2 O3 G3 _; have g2 := (P2.out G3).1; have c02 := (P2.out G3).2.1; have O22 := (P2.out G3).2.2)
      | (at_builtin; refine Elm.wpList_append (E := eS) rfl (.tmp 70) (.tmp 72) rfl 0 (.slice a2 k d2) (N.take k) rfl (O22 _) _ [x] rfl (rx_str _ _ _ rfl) (by omega) (by show _ * 16 ≤ _; omega) (Nat.zero_le _) ?_; intro a4 n4 d4 w3 O4 G4 L4; have c03 := (P3.out g2 O3 O4 G4 L4).1.1; have f03 := (P3.out g2 O3 O4 G4 L4).1.2; have M4 := (P3.out g2 O3 O4 G4 L4).2.1; have R4 := (P3.out g2 O3 O4 G4 L4).2.2)
      | (at_builtin; refine Elm.wpList_append (E := eS) rfl (.tmp 80) (.tmp 81) rfl 0 (.slice a4 n4 d4) (N.take k ++ [x]) rfl M4.rf.oN _ (N.drop k) rfl R4 (by omega) (by show _ * 16 ≤ _; omega) (Nat.zero_le _) ?_; intro a5 n5 d5 w5 O5 G5 L5; have c05 := (P5.out M4 O5 G5 L5).1.1; have f05 := (P5.out M4 O5 G5 L5).1.2; have M6 := (P5.out M4 O5 G5 L5).2))
    obtain ⟨w6, hw6⟩ : ∃ w6, w6 = w5.setCell ⟨q, 0, none⟩ (.slice a5 n5 d5) := ⟨_, rfl⟩
    rw [← hw6] at M6 ⊢
    have H6 : Hid (RfD w6 q (.slice a5 n5 d5) vL (N.take k ++ x :: N.drop k) L) := M6.rf
    have HM6 : Hid (Mid w w6 q (.slice aN N.length cN) vL (.slice a5 n5 d5) (N.take k ++ x :: N.drop k) L) := M6
    have X6 : eB.Rx w6 (.slice ad l.length c) l := hX.kept' M6.ch fun hne j hj e => by
      rcases e with e | e
      · exact (hdj hne j hj).1 e
      · exact (hdj hne j hj).2 e
    clear hw6 M6 c05 f05 O5 G5 L5 M4 R4 c03 f03 O4 G4 L4 O22 c02 g2 O3 G3 P2 P3 P5 M0 R0 HM0 hsl' hsu' c0 f0 f1 qw hX hdj
    have c1 : w6.cell? ⟨q, 1, none⟩ = some vL := H6.out.c1
    have qw : q < w6.heap.size := World.block_lt_of_cell? w6 _ c1
    have y0 : (convert 31 9 (.slice ad l.length c)).run Try.prog w6.drew = .ok (.string ⟨l.toArray⟩) w6.drew := run_string (w := w6.drew) X6
    have nq : some q ≠ vL.ownBlock := fun e => H6.out.nL e.symm
    have OL7 : ∀ o, (w6.alloc o).drew.eROwn vL L := fun o => H6.out.oL.grown (grown_drew (World.grownBy_alloc w6 o none))
    have RW7 : eR.Rx (w6.alloc (Obj.cells #[.string ⟨x.toArray⟩, .string ⟨l.toArray⟩, .bool false] 51)).drew (.slice (some ⟨w6.heap.size, 0, none⟩) 1 1) [⟨x, l, false⟩] := rx_rw w6 ⟨x, l, false⟩ _ rfl
    have kb : Hid (∀ {o1 w7}, (w6.alloc o1).drew.grownBy w7 vL.ownBlock → w6.grownBy w7 vL.ownBlock ∧ w7.cell? ⟨q, 1, none⟩ = some vL ∧ w7.frozen? ⟨q, 1, none⟩ = false) := fun {o1 w7} g => by
      have g' : w6.grownBy w7 vL.ownBlock := grown_more ((grown_drew (World.grownBy_alloc w6 o1 none)).but _) g (fun _ e => .inl e)
      exact ⟨g', g'.cell c1 nq, by rw [World.frozen?_of_block (w := w6) (a := ⟨q, 1, none⟩) (g'.block q qw nq)]; exact H6.out.fr 1⟩
    have hwl : (L.length + [(⟨x, l, false⟩ : Rw)].length) * 40 ≤ 140737488355328 := by simp; omega
    have hwl2 : L.length + [(⟨x, l, false⟩ : Rw)].length ≤ 4611686018427387904 := by simp; omega
    have c1d : w6.drew.cell? ⟨q, 1, none⟩ = some vL := c1
    go_region_law (refine step_of rfl (Elm.wp_append (E := eR) (.tmp 89) (.tmp 94) rfl 0 vL L rfl (OL7 _) _ [⟨x, l, false⟩] rfl RW7 hwl2 hwl (Nat.zero_le _) ?_); intro ad3 n3 cp3 w7 O7 G7' L7; have G7 := (kb.out G7').1; have k71 := (kb.out G7').2.1; have f71 := (kb.out G7').2.2)
    all_goals
      go_wp2
      go_ret
      refine ⟨rfl, k, w6, _, HSP2.out, H6.out, HM6.out.bl, HM6.out.ch, w7, _, rfl, G7, O7, ?_⟩
      rcases L7 with e | e
      · exact .inl e
      · exact .inr ⟨_, e, by show _ ≤ (World.alloc _ _).heap.size; simp⟩
end Go.Proofs.Ythpeeldpalmakaa
