/- The reference's Append. The reference's list of writes, held against the files. .. what each call leaves of that. .. Sync, Remove, Crash. The reference's Append, whatever it is asked; both disks side by side. -/
import Derived.Test.YtapdhkgeolcogaaGreatDoorHc
namespace Go.Proofs.YtapdhkgeolcogaaGreatDoor
open Go.RowKit Dsk
set_option linter.unusedVariables false

namespace Elm
variable {α : Type} {E : Elm α}
/-- 'v[k:]', read. -/
theorem frm {w : World} {base : Nat} {v : Value} {L : List α} (h : E.Own w base v L) {k : Nat} (hk : k ≤ L.length) :
    ∃ ad c, (∀ W, (Instr.sliceAt E.sl v (some (.int .i64 (k : Int))) none none).run Tryz.prog W = .ok (.slice ad (L.length - k) c) W) ∧ E.Rx w (.slice ad (L.length - k) c) (L.drop k) := by
  have ht : Tryz.prog.underlying E.sl = some (.slice (Tryz.prog.elem E.sl)) := by rw [E.he]; exact E.hu
  have run : ∀ a n c W, k ≤ n → (Instr.sliceAt E.sl (.slice a n c) (some (.int .i64 (k : Int))) none none).run Tryz.prog W = .ok (sliced a k n c E.size) W := fun a n c W hn => by
    rw [run_sliceAt_slice W E.sl _ _ _ _ ht, run_slice_l W E.sl a n c ht .i64 (k : Int) (by omega) (by omega), E.he, E.so W]
    show Result.ok (sliced a (k : Int).toNat n c E.size) W = _
    rw [Int.toNat_natCast]
  rcases h.2 with ⟨e, h0⟩ | ⟨g, cap, cur, e, hg, hh, h1, h2, h3, h4⟩
  · have hL : L = [] := List.eq_nil_of_length_eq_zero h0
    subst hL
    have hk0 : k = 0 := by simpa using hk
    subst hk0
    refine ⟨none, 0, fun W => ?_, .inl ⟨rfl, rfl⟩⟩
    rw [e, run none 0 0 W (by omega)]
    rfl
  · have cellAt : ∀ t x, (E.cells (L.drop k))[t]? = some x → w.cell? ((⟨g, k * E.size, none⟩ : Addr).add t) = some x := fun t x hx => by
      rw [cells_drop, List.getElem?_drop] at hx
      have := World.ownsRow.cells h (g := g) (by rw [e]; rfl) (k * E.size + t) x hx
      rw [Addr.add_lit, Nat.zero_add] at this
      rw [Addr.add_lit]
      exact this
    by_cases hc : cap = k
    · have hd : L.drop k = [] := List.drop_eq_nil_of_le (by omega)
      refine ⟨some ⟨g, 0, none⟩, 0, fun W => ?_, .inr ⟨⟨g, 0, none⟩, 0, by rw [hd, show L.length - k = 0 by omega]; rfl, .inl hd, fun t x hx => by rw [hd] at hx; simp [cells_nil] at hx⟩⟩
      rw [e, run _ _ _ W hk]
      unfold sliced
      rw [if_pos hc, show L.length - k = 0 by omega, show cap - k = 0 by omega]
    · refine ⟨some ⟨g, k * E.size, none⟩, cap - k, fun W => ?_, .inr ⟨⟨g, k * E.size, none⟩, cap - k, by rw [List.length_drop], .inr rfl, cellAt⟩⟩
      rw [e, run _ _ _ W hk]
      unfold sliced
      rw [if_neg hc]
      show Result.ok (Value.slice (some ((⟨g, 0, none⟩ : Addr).add (k * E.size))) _ _) W = _
      rw [Addr.add_lit, Nat.zero_add]
end Elm
set_option maxRecDepth 100000 in
set_option maxHeartbeats 1600000 in
theorem rapp_bad (q : Nat) (x : List UInt8) (hx : x.length ≤ 140737488351232) (v : Value) (hb : isNm x = false) (w : World) :
    Calls Tryz.prog 22 #[.pointer (some ⟨q, 0, none⟩), .string ⟨x.toArray⟩, v] w fun e w' => e = .returned (.int .i64 1) ∧ w' = w := by
  have NM := named_any ⟨x.toArray⟩ (by simpa [ByteArray.size] using hx) w
  rw [show isNm (⟨x.toArray⟩ : ByteArray).data.toList = false from hb] at NM
  go_enter Tryz.func22, Tryz.ntmps22
  go_wp2_with (go_at_call 47; (with_reducible refine NM.mono ?_); rintro e w1 ⟨rfl, rfl⟩)
  go_ret
  exact ⟨rfl, rfl⟩
set_option maxRecDepth 100000 in
set_option maxHeartbeats 1600000 in
theorem rapp_full (q : Nat) (vN vL : Value) (N : List (List UInt8)) (L : List Rw) (x : List UInt8) (hx : x.length ≤ 140737488351232) (ad : Option Addr) (n c : Nat) (hn : n ≤ 140737488351232) (hb : isNm x = true) (hN : N.length ≤ 64) (hL : L.length ≤ 1000000000) (ht : rtot L ≤ 1048576) (hf : (rhas N x = false ∧ 64 ≤ N.length) ∨ 1048576 < rtot L + n) (w : World) (h : RfD w q vN vL N L) :
    Calls Tryz.prog 22 #[.pointer (some ⟨q, 0, none⟩), .string ⟨x.toArray⟩, .slice ad n c] w fun e w' => e = .returned (.int .i64 3) ∧ w' = w := by
  have NM := named_any ⟨x.toArray⟩ (by simpa [ByteArray.size] using hx) w
  rw [show isNm (⟨x.toArray⟩ : ByteArray).data.toList = true from hb] at NM
  have HS := rhas_any q vN vL N L x hN w h
  have TT := rtotal_any q vN vL N L hL ht w h
  obtain ⟨aN, cN, rfl⟩ := Elm.form h.oN
  have c0 := h.c0
  change Calls _ _ _ _ fun e w' => e = .returned (.bool (rhas N x)) ∧ w' = w at HS
  generalize rtot L = t at TT ht hf
  clear h hb hL
  cases hh : rhas N x with
  | true =>
    rw [hh] at HS hf
    have hf2 : 1048576 < t + n := by rcases hf with ⟨e, _⟩ | e; cases e; exact e
    have q1 : (1048576 : Int) < (t : Int) + (n : Int) := by omega
    clear hf hh
    go_enter Tryz.func22, Tryz.ntmps22
    go_wp2_with (first
      | (go_at_call 47; (with_reducible refine NM.mono ?_); rintro e w1 ⟨rfl, e1⟩; have e1' := e1.symm; clear e1; subst e1')
      | (go_at_call 48; (with_reducible refine HS.mono ?_); rintro e w1 ⟨rfl, e1⟩; have e1' := e1.symm; clear e1; subst e1')
      | (go_at_call 49; (with_reducible refine TT.mono ?_); rintro e w1 ⟨rfl, e1⟩; have e1' := e1.symm; clear e1; subst e1'))
    go_ret
    exact ⟨rfl, rfl⟩
  | false =>
    rw [hh] at HS
    by_cases h64 : 64 ≤ N.length
    · have q1 : (64 : Int) ≤ (N.length : Int) := by omega
      have q2 : ¬ N.length < 64 := by omega
      clear hf hh
      go_enter Tryz.func22, Tryz.ntmps22
      go_wp2_with (first
        | (go_at_call 47; (with_reducible refine NM.mono ?_); rintro e w1 ⟨rfl, e1⟩; have e1' := e1.symm; clear e1; subst e1')
        | (go_at_call 48; (with_reducible refine HS.mono ?_); rintro e w1 ⟨rfl, e1⟩; have e1' := e1.symm; clear e1; subst e1'))
      go_ret
      exact ⟨rfl, rfl⟩
    · have hf2 : 1048576 < t + n := by rcases hf with ⟨_, e⟩ | e; omega; exact e
      have q1 : (1048576 : Int) < (t : Int) + (n : Int) := by omega
      have q3 : ¬ (64 : Int) ≤ (N.length : Int) := by omega
      clear hf hh
      go_enter Tryz.func22, Tryz.ntmps22
      go_wp2_with (first
        | (go_at_call 47; (with_reducible refine NM.mono ?_); rintro e w1 ⟨rfl, e1⟩; have e1' := e1.symm; clear e1; subst e1')
        | (go_at_call 48; (with_reducible refine HS.mono ?_); rintro e w1 ⟨rfl, e1⟩; have e1' := e1.symm; clear e1; subst e1')
        | (go_at_call 49; (with_reducible refine TT.mono ?_); rintro e w1 ⟨rfl, e1⟩; have e1' := e1.symm; clear e1; subst e1'))
      go_ret
      exact ⟨rfl, rfl⟩
/-- 'Own', in dot's form. -/
def _root_.Go.World.eROwn (w : World) (v : Value) (l : List Rw) : Prop := eR.Own w 0 v l
/-- What the new write leaves. -/
def PutOut (q : Nat) (vL : Value) (L : List Rw) (x l : List UInt8) (w w' : World) : Prop := ∃ w7 vL', w' = w7.setCell ⟨q, 1, none⟩ vL' ∧ w.grownBy w7 vL.ownBlock ∧ eR.Own w7 0 vL' (L ++ [⟨x, l, false⟩]) ∧ (vL'.ownBlock = vL.ownBlock ∨ ∃ k, vL'.ownBlock = some k ∧ w.heap.size ≤ k)
set_option maxRecDepth 100000 in
set_option maxHeartbeats 1600000 in
theorem rapp_old (q : Nat) (vN vL : Value) (N : List (List UInt8)) (L : List Rw) (x : List UInt8) (hx : x.length ≤ 140737488351232) (ad : Option Addr) (n c : Nat) (l : List UInt8) (hl : n = l.length) (hb : isNm x = true) (hN : N.length ≤ 64) (hL : L.length ≤ 1000000000) (ht : rtot L + n ≤ 1048576) (hf : rhas N x = true) (w : World) (h : RfD w q vN vL N L) (hX : eB.Rx w (.slice ad n c) l) :
    Calls Tryz.prog 22 #[.pointer (some ⟨q, 0, none⟩), .string ⟨x.toArray⟩, .slice ad n c] w fun e w' => e = .returned (.int .i64 0) ∧ PutOut q vL L x l w w' := by
  subst hl
  have NM := named_any ⟨x.toArray⟩ (by simpa [ByteArray.size] using hx) w
  rw [show isNm (⟨x.toArray⟩ : ByteArray).data.toList = true from hb] at NM
  have HS := rhas_any q vN vL N L x hN w h
  have TT := rtotal_any q vN vL N L hL (by omega) w h
  change Calls _ _ _ _ fun e w' => e = .returned (.bool (rhas N x)) ∧ w' = w at HS
  rw [hf] at HS
  generalize rtot L = t at TT ht
  have q1 : ¬ (1048576 : Int) < (t : Int) + (l.length : Int) := by omega
  have H : Hid (RfD w q vN vL N L) := h
  clear hb h
  go_enter Tryz.func22, Tryz.ntmps22
  go_upto_region 13 with (first
    | (go_at_call 47; (with_reducible refine NM.mono ?_); rintro e w1 ⟨rfl, e1⟩; have e1' := e1.symm; clear e1; subst e1')
    | (go_at_call 48; (with_reducible refine HS.mono ?_); rintro e w1 ⟨rfl, e1⟩; have e1' := e1.symm; clear e1; subst e1')
    | (go_at_call 49; (with_reducible refine TT.mono ?_); rintro e w1 ⟨rfl, e1⟩; have e1' := e1.symm; clear e1; subst e1'))
  clear NM HS TT hx
  have c1 : w.cell? ⟨q, 1, none⟩ = some vL := H.out.c1
  have qw : q < w.heap.size := World.block_lt_of_cell? w _ c1
  have y0 : (convert 39 9 (.slice ad l.length c)).run Tryz.prog w.drew = .ok (.string ⟨l.toArray⟩) w.drew := run_string (w := w.drew) hX
  have nq : some q ≠ vL.ownBlock := fun e => H.out.nL e.symm
  have OL7 : ∀ o, (w.alloc o).drew.eROwn vL L := fun o => H.out.oL.grown (grown_drew (World.grownBy_alloc w o none))
  have RW7 : eR.Rx (w.alloc (Obj.cells #[.string ⟨x.toArray⟩, .string ⟨l.toArray⟩, .bool false] 86)).drew (.slice (some ⟨w.heap.size, 0, none⟩) 1 1) [⟨x, l, false⟩] := rx_rw w ⟨x, l, false⟩ _ rfl
  have kb : Hid (∀ {o1 w7}, (w.alloc o1).drew.grownBy w7 vL.ownBlock → w.grownBy w7 vL.ownBlock ∧ w7.cell? ⟨q, 1, none⟩ = some vL ∧ w7.frozen? ⟨q, 1, none⟩ = false) := fun {o1 w7} g => by
    have g' : w.grownBy w7 vL.ownBlock := grown_more ((grown_drew (World.grownBy_alloc w o1 none)).but _) g (fun _ e => .inl e)
    exact ⟨g', g'.cell c1 nq, by rw [World.frozen?_of_block (w := w) (a := ⟨q, 1, none⟩) (g'.block q qw nq)]; exact H.out.fr 1⟩
  have hwl : (L.length + [(⟨x, l, false⟩ : Rw)].length) * 40 ≤ 140737488355328 := by simp; omega
  have hwl2 : L.length + [(⟨x, l, false⟩ : Rw)].length ≤ 4611686018427387904 := by simp; omega
  have c1d : w.drew.cell? ⟨q, 1, none⟩ = some vL := c1
  clear hX
  go_region_law (refine step_of rfl (Elm.wp_append (E := eR) (.tmp 89) (.tmp 94) rfl 0 vL L rfl (OL7 _) _ [⟨x, l, false⟩] rfl RW7 hwl2 hwl (Nat.zero_le _) ?_); intro ad3 n3 cp3 w7 O7 G7' L7; have G7 := (kb.out G7').1; have k71 := (kb.out G7').2.1; have f71 := (kb.out G7').2.2)
  all_goals
    go_wp2
    go_ret
    refine ⟨rfl, w7, _, rfl, G7, O7, ?_⟩
    rcases L7 with e | e
    · exact .inl e
    · exact .inr ⟨_, e, by show _ ≤ (World.alloc _ _).heap.size; simp⟩
/-- The reference's disk while its names are written anew. -/
structure Mid (w w4 : World) (q : Nat) (vN vL v4 : Value) (N4 : List (List UInt8)) (L : List Rw) : Prop where
  rf : RfD w4 q v4 vL N4 L
  bl : v4.ownBlock = vN.ownBlock ∨ ∃ j, v4.ownBlock = some j ∧ w.heap.size ≤ j
  ch : Chg (fun j => j = q ∨ vN.ownBlock = some j) w w4
theorem Mid.put {w w4 w5 : World} {q : Nat} {vN vL v4 v5 : Value} {N4 N5 : List (List UInt8)} {L : List Rw} (M : Mid w w4 q vN vL v4 N4 L) (g : w4.grownBy w5 v4.ownBlock) (o : eS.Own w5 0 v5 N5) (hb : v5.ownBlock = v4.ownBlock ∨ ∃ j, v5.ownBlock = some j ∧ w4.heap.size ≤ j) :
    w5.cell? ⟨q, 0, none⟩ = some v4 ∧ w5.frozen? ⟨q, 0, none⟩ = false ∧ Mid w (w5.setCell ⟨q, 0, none⟩ v5) q vN vL v5 N5 L := by
  have nq : some q ≠ v4.ownBlock := fun e => M.rf.nN e.symm
  have qw : q < w4.heap.size := World.block_lt_of_cell? w4 _ M.rf.c0
  have k0 : w5.cell? ⟨q, 0, none⟩ = some v4 := g.cell M.rf.c0 nq
  have kf : ∀ i, w5.frozen? ⟨q, i, none⟩ = false := fun i => by rw [World.frozen?_of_block (w := w4) (a := ⟨q, i, none⟩) (g.block q qw nq)]; exact M.rf.fr i
  have gs := grown_set w5 ⟨q, 0, none⟩ v5
  have n5 : v5.ownBlock ≠ some q := fun e => by
    rcases hb with h | ⟨j, h, hj⟩
    · exact M.rf.nN (h ▸ e)
    · rw [h] at e; injection e with e; omega
  have oL : eR.Own w5 0 vL L := M.rf.oL.but g fun k hk e => M.rf.ap k e hk
  refine ⟨k0, kf 0, ⟨⟨set_same k0, (set_other (by simp)).trans (g.cell M.rf.c1 nq), fun i => (World.frozen?_setCell _ _ _ _).trans (kf i), o.but gs fun k hk e => n5 (by injection e with e; have e2 : q = k := e; rw [e2]; exact hk), oL.but gs fun k hk e => M.rf.nL (by injection e with e; have e2 : q = k := e; rw [e2]; exact hk), n5, M.rf.nL, fun k hk e => ?_⟩, ?_, ?_⟩⟩
  · rcases hb with h | ⟨j, h, hj⟩
    · exact M.rf.ap k (h ▸ hk) e
    · rw [h] at hk; injection hk with hk
      have := (M.rf.oL.lt k e).2
      omega
  · rcases hb with h | ⟨j, h, hj⟩
    · rw [h]; exact M.bl
    · exact .inr ⟨j, h, Nat.le_trans M.ch.size hj⟩
  · refine (M.ch.grown g fun k hk => ?_).grown gs fun k hk => .inl (.inl (by injection hk with hk; exact hk.symm))
    rcases M.bl with h | ⟨j, h, hj⟩
    · exact .inl (.inr (h ▸ hk))
    · rw [h] at hk; injection hk with hk; exact .inr (by omega)
/-- Where a new name belongs. -/
def Spot (N : List (List UInt8)) (x : List UInt8) (k : Nat) : Prop := k ≤ N.length ∧ (∀ y ∈ N.take k, Op.bytesLess y x = true) ∧ ∀ y, N[k]? = some y → Op.bytesLess y x = false
set_option maxRecDepth 100000 in
set_option maxHeartbeats 1600000 in
theorem rapp_no (q : Nat) (vN vL : Value) (N : List (List UInt8)) (L : List Rw) (x : List UInt8) (hx : x.length ≤ 140737488351232) (ad : Option Addr) (n c : Nat) (l : List UInt8) (hl : n = l.length) (hb : isNm x = true) (hN : N.length ≤ 64) (hL : L.length ≤ 1000000000) (ht : rtot L + n ≤ 1048576) (hf : rhas N x = false) (h64 : N.length < 64) (w : World) (h : RfD w q vN vL N L) (hX : eB.Rx w (.slice ad n c) l) (hdj : l ≠ [] → ∀ j, (Value.slice ad n c).ownBlock = some j → j ≠ q ∧ vN.ownBlock ≠ some j) :
    Calls Tryz.prog 22 #[.pointer (some ⟨q, 0, none⟩), .string ⟨x.toArray⟩, .slice ad n c] w fun e w' => e = .returned (.int .i64 0) ∧ ∃ k w6 vN6, Spot N x k ∧ RfD w6 q vN6 vL (N.take k ++ x :: N.drop k) L ∧ (vN6.ownBlock = vN.ownBlock ∨ ∃ j, vN6.ownBlock = some j ∧ w.heap.size ≤ j) ∧ Chg (fun j => j = q ∨ vN.ownBlock = some j) w w6 ∧ PutOut q vL L x l w6 w' := by
  subst hl
  have NM := named_any ⟨x.toArray⟩ (by simpa [ByteArray.size] using hx) w
  rw [show isNm (⟨x.toArray⟩ : ByteArray).data.toList = true from hb] at NM
  have HS := rhas_any q vN vL N L x hN w h
  have TT := rtotal_any q vN vL N L hL (by omega) w h
  obtain ⟨aN, cN, rfl⟩ := Elm.form h.oN
  have c0 := h.c0
  change Calls _ _ _ _ fun e w' => e = .returned (.bool (rhas N x)) ∧ w' = w at HS
  rw [hf] at HS
  generalize rtot L = t at TT ht
  have q1 : ¬ (1048576 : Int) < (t : Int) + (l.length : Int) := by omega
  have q3 : ¬ (64 : Int) ≤ (N.length : Int) := by omega
  clear hb
  go_enter Tryz.func22, Tryz.ntmps22
  go_upto_region 6 with (first
    | (go_at_call 47; (with_reducible refine NM.mono ?_); rintro e w1 ⟨rfl, e1⟩; have e1' := e1.symm; clear e1; subst e1')
    | (go_at_call 48; (with_reducible refine HS.mono ?_); rintro e w1 ⟨rfl, e1⟩; have e1' := e1.symm; clear e1; subst e1')
    | (go_at_call 49; (with_reducible refine TT.mono ?_); rintro e w1 ⟨rfl, e1⟩; have e1' := e1.symm; clear e1; subst e1'))
  clear NM HS TT hx
  have f0 := h.fr 0
  have f1 := h.fr 1
  have qw : q < w.heap.size := World.block_lt_of_cell? w _ c0
  have H : Hid (RfD w q (.slice aN N.length cN) vL N L) := h
  clear h
  go_upto_block 0 with fail
  go_cut [8] from 36 to 55 (fun v wx => wx = w ∧ ∃ k : Nat, v = .int .i64 k ∧ Spot N x k)
  case first =>
    go_wp2_with fail
    go_loopw [8] (fun v wx => wx = w ∧ ∃ k : Nat, v = .int .i64 k ∧ k ≤ N.length ∧ ∀ y ∈ N.take k, Op.bytesLess y x = true) (fun i _ => N.length - (intOf i).toNat)
    case atStart => exact ⟨rfl, 0, rfl, by omega, by simp⟩
    case round =>
      obtain ⟨e0, k, rfl, hk, hle⟩ := hrel
      have HLE : Hid (∀ y ∈ N.take k, Op.bytesLess y x = true) := hle
      clear hle
      have e1 := e0.symm
      clear e0
      subst e1
      by_cases hlt : k < N.length
      · obtain ⟨y, hy⟩ : ∃ y, N[k]? = some y := ⟨_, List.getElem?_eq_getElem hlt⟩
        obtain ⟨g, o, h1, h2, _⟩ := H.out.oN.idx (by omega) hy
        have h1' : ∀ W, (Instr.indexAt 27 (.slice aN N.length cN) (.int .i64 (k : Int))).run Tryz.prog W = .ok (.pointer (some ⟨g, o, none⟩)) W := h1
        have z0 : w.cell? ⟨g, o, none⟩ = some (.string ⟨y.toArray⟩) := h2 0 _ rfl
        have HY : Hid (N[k]? = some y) := hy
        clear h1 h2 hy
        cases hB : Op.bytesLess y x with
        | true =>
          go_wp2_with fail
          go_roundw
          case rel =>
            refine ⟨by trivial, k + 1, by go_num, by omega, fun z hz => ?_⟩
            rw [List.take_add_one, HY.out] at hz
            rcases List.mem_append.1 hz with e | e
            · exact HLE.out z e
            · simp at e; rw [e]; exact hB
          case measure => simp [intOf]; omega
        | false =>
          go_wp2_with fail
          go_meet
          exact ⟨rfl, k, rfl, hk, HLE.out, fun z hz => by rw [HY.out] at hz; injection hz with hz; rw [← hz]; exact hB⟩
      · go_wp2_with fail
        go_meet
        exact ⟨rfl, k, rfl, hk, HLE.out, fun z hz => absurd (List.getElem?_eq_some_iff.1 hz).1 hlt⟩
  case rest =>
    obtain ⟨e0, k, rfl, HSP⟩ := hcut
    have e1 := e0.symm
    clear e0
    subst e1
    have HSP2 : Hid (Spot N x k) := HSP
    have hk : k ≤ N.length := HSP.1
    clear HSP
    obtain ⟨a1, d1, hsl, hR1⟩ := Elm.frm (E := eS) H.out.oN hk
    obtain ⟨a2, d2, hsu, hO2, hob⟩ := Elm.upto (E := eS) H.out.oN hk
    have hsl' : ∀ W, (Instr.sliceAt 27 (.slice aN N.length cN) (some (.int .i64 (k : Int))) none none).run Tryz.prog W = .ok (.slice a1 (N.length - k) d1) W := hsl
    have hsu' : ∀ W, (Instr.sliceAt 27 (.slice aN N.length cN) none (some (.int .i64 (k : Int))) none).run Tryz.prog W = .ok (.slice a2 k d2) W := hsu
    clear hsl hsu
    have M0 : eS.Own (w.alloc (Obj.cells #[] 9)) w.heap.size (.slice (some ⟨w.heap.size, 0, none⟩) 0 0) [] := Elm.made (E := eS) w #[] 0 _ rfl (by decide) rfl
    have R0 : ∀ ob, eS.Rx (w.alloc ob) (.slice a1 (N.length - k) d1) (N.drop k) := fun ob => hR1.grown (World.grownBy_alloc w ob none)
    have HM0 : Hid (Mid w w q (.slice aN N.length cN) vL (.slice aN N.length cN) N L) := ⟨H.out, .inl rfl, Chg.refl _ _⟩
    have P2 : Hid (∀ {ob w2}, (w.alloc ob).grownBy w2 (Value.slice (some ⟨w.heap.size, 0, none⟩) 0 0).ownBlock → w.grownBy w2 none ∧ w2.cell? ⟨q, 0, none⟩ = some (.slice aN N.length cN) ∧ ∀ o2, eS.Own (w2.alloc o2) 0 (.slice a2 k d2) (N.take k)) := fun {ob w2} g => by
      have g2 : w.grownBy w2 none := grown_more (World.grownBy_alloc w ob none) g (fun b e => .inr (by have e2 : some w.heap.size = some b := e; injection e2 with e2; omega))
      exact ⟨g2, g2.cell c0 (by simp), fun o2 => (hO2.grown g2).grown (World.grownBy_alloc w2 o2 none)⟩
    have P3 : Hid (∀ {w2 o2 w3 v3 v4}, w.grownBy w2 none → eS.Own w2 w.heap.size v3 ([] ++ N.drop k) → eS.Own w3 0 v4 (N.take k ++ [x]) → (w2.alloc o2).grownBy w3 (Value.slice a2 k d2).ownBlock → (v4.ownBlock = (Value.slice a2 k d2).ownBlock ∨ v4.ownBlock = some (w2.alloc o2).heap.size) → (w3.cell? ⟨q, 0, none⟩ = some (.slice aN N.length cN) ∧ w3.frozen? ⟨q, 0, none⟩ = false) ∧ Mid w (w3.setCell ⟨q, 0, none⟩ v4) q (.slice aN N.length cN) vL v4 (N.take k ++ [x]) L ∧ eS.Rx (w3.setCell ⟨q, 0, none⟩ v4) v3 (N.drop k)) := fun {w2 o2 w3 v3 v4} g2 o3 o4 g4 l4 => by
      have M2 : Mid w w2 q (.slice aN N.length cN) vL (.slice aN N.length cN) N L := ⟨H.out.grown g2, .inl rfl, Chg.of g2 (by simp)⟩
      rw [hob] at g4 l4
      have g4' : w2.grownBy w3 (Value.slice aN N.length cN).ownBlock := grown_more ((World.grownBy_alloc w2 o2 none).but _) g4 (fun _ e => .inl e)
      obtain ⟨e1, e2, e3⟩ := M2.put g4' o4 (l4.imp id fun e => ⟨_, e, by simp⟩)
      refine ⟨⟨e1, e2⟩, e3, ?_⟩
      have lt := H.out.oN.lt
      have o3' : eS.Own w3 w.heap.size v3 ([] ++ N.drop k) := o3.but g4' fun j hj e => by
        have := (lt j e).2
        have := (o3.lt j hj).1
        omega
      have o3'' := o3'.but (grown_set w3 ⟨q, 0, none⟩ v4) fun j hj e => by
        have e2 : some q = some j := e
        injection e2 with e'
        have := (o3.lt j hj).1
        omega
      exact o3''.rx
    have P5 : Hid (∀ {w4 w5 v4 v5}, Mid w w4 q (.slice aN N.length cN) vL v4 (N.take k ++ [x]) L → eS.Own w5 0 v5 ((N.take k ++ [x]) ++ N.drop k) → w4.grownBy w5 v4.ownBlock → (v5.ownBlock = v4.ownBlock ∨ v5.ownBlock = some w4.heap.size) → (w5.cell? ⟨q, 0, none⟩ = some v4 ∧ w5.frozen? ⟨q, 0, none⟩ = false) ∧ Mid w (w5.setCell ⟨q, 0, none⟩ v5) q (.slice aN N.length cN) vL v5 (N.take k ++ x :: N.drop k) L) := fun {w4 w5 v4 v5} m o g hb => by
      rw [List.append_assoc] at o
      obtain ⟨e1, e2, e3⟩ := m.put g o (hb.imp id fun e => ⟨_, e, Nat.le_refl _⟩)
      exact ⟨⟨e1, e2⟩, e3⟩
    have lk : (N.take k).length + [x].length ≤ 65 := by rw [List.length_take]; simp; omega
    have ld : ([] : List (List UInt8)).length + (N.drop k).length ≤ 64 := by rw [List.length_drop]; simp; omega
    have lm : (N.take k ++ [x]).length + (N.drop k).length ≤ 65 := by simp; omega
    clear hR1 hO2 hob
    go_upto_region 13 with (first
      | (at_builtin; refine Elm.wpList_append (E := eS) rfl (.tmp 56) (.tmp 62) rfl w.heap.size (.slice (some ⟨w.heap.size, 0, none⟩) 0 0) [] rfl M0 _ (N.drop k) rfl (R0 _) (by omega) (by show _ * 16 ≤ _; omega) (by simp) ?_; intro a3 n3 d3 w2 O3 G3 _; have g2 := (P2.out G3).1; have c02 := (P2.out G3).2.1; have O22 := (P2.out G3).2.2)
      | (at_builtin; refine Elm.wpList_append (E := eS) rfl (.tmp 70) (.tmp 72) rfl 0 (.slice a2 k d2) (N.take k) rfl (O22 _) _ [x] rfl (rx_str _ _ _ rfl) (by omega) (by show _ * 16 ≤ _; omega) (Nat.zero_le _) ?_; intro a4 n4 d4 w3 O4 G4 L4; have c03 := (P3.out g2 O3 O4 G4 L4).1.1; have f03 := (P3.out g2 O3 O4 G4 L4).1.2; have M4 := (P3.out g2 O3 O4 G4 L4).2.1; have R4 := (P3.out g2 O3 O4 G4 L4).2.2)
      | (at_builtin; refine Elm.wpList_append (E := eS) rfl (.tmp 80) (.tmp 81) rfl 0 (.slice a4 n4 d4) (N.take k ++ [x]) rfl M4.rf.oN _ (N.drop k) rfl R4 (by omega) (by show _ * 16 ≤ _; omega) (Nat.zero_le _) ?_; intro a5 n5 d5 w5 O5 G5 L5; have c05 := (P5.out M4 O5 G5 L5).1.1; have f05 := (P5.out M4 O5 G5 L5).1.2; have M6 := (P5.out M4 O5 G5 L5).2))
    obtain ⟨w6, hw6⟩ : ∃ w6, w6 = w5.setCell ⟨q, 0, none⟩ (.slice a5 n5 d5) := ⟨_, rfl⟩
    rw [← hw6] at M6 ⊢
    have H6 : Hid (RfD w6 q (.slice a5 n5 d5) vL (N.take k ++ x :: N.drop k) L) := M6.rf
    have HM6 : Hid (Mid w w6 q (.slice aN N.length cN) vL (.slice a5 n5 d5) (N.take k ++ x :: N.drop k) L) := M6
    have X6 : eB.Rx w6 (.slice ad l.length c) l := hX.kept' M6.ch fun hne j hj e => by
      rcases e with e | e
      · exact (hdj hne j hj).1 e
      · exact (hdj hne j hj).2 e
    clear hw6 M6 c05 f05 O5 G5 L5 M4 R4 c03 f03 O4 G4 L4 O22 c02 g2 O3 G3 P2 P3 P5 M0 R0 HM0 hsl' hsu' c0 f0 f1 qw hX hdj
    have c1 : w6.cell? ⟨q, 1, none⟩ = some vL := H6.out.c1
    have qw : q < w6.heap.size := World.block_lt_of_cell? w6 _ c1
    have y0 : (convert 39 9 (.slice ad l.length c)).run Tryz.prog w6.drew = .ok (.string ⟨l.toArray⟩) w6.drew := run_string (w := w6.drew) X6
    have nq : some q ≠ vL.ownBlock := fun e => H6.out.nL e.symm
    have OL7 : ∀ o, (w6.alloc o).drew.eROwn vL L := fun o => H6.out.oL.grown (grown_drew (World.grownBy_alloc w6 o none))
    have RW7 : eR.Rx (w6.alloc (Obj.cells #[.string ⟨x.toArray⟩, .string ⟨l.toArray⟩, .bool false] 86)).drew (.slice (some ⟨w6.heap.size, 0, none⟩) 1 1) [⟨x, l, false⟩] := rx_rw w6 ⟨x, l, false⟩ _ rfl
    have kb : Hid (∀ {o1 w7}, (w6.alloc o1).drew.grownBy w7 vL.ownBlock → w6.grownBy w7 vL.ownBlock ∧ w7.cell? ⟨q, 1, none⟩ = some vL ∧ w7.frozen? ⟨q, 1, none⟩ = false) := fun {o1 w7} g => by
      have g' : w6.grownBy w7 vL.ownBlock := grown_more ((grown_drew (World.grownBy_alloc w6 o1 none)).but _) g (fun _ e => .inl e)
      exact ⟨g', g'.cell c1 nq, by rw [World.frozen?_of_block (w := w6) (a := ⟨q, 1, none⟩) (g'.block q qw nq)]; exact H6.out.fr 1⟩
    have hwl : (L.length + [(⟨x, l, false⟩ : Rw)].length) * 40 ≤ 140737488355328 := by simp; omega
    have hwl2 : L.length + [(⟨x, l, false⟩ : Rw)].length ≤ 4611686018427387904 := by simp; omega
    have c1d : w6.drew.cell? ⟨q, 1, none⟩ = some vL := c1
    go_region_law (refine step_of rfl (Elm.wp_append (E := eR) (.tmp 89) (.tmp 94) rfl 0 vL L rfl (OL7 _) _ [⟨x, l, false⟩] rfl RW7 hwl2 hwl (Nat.zero_le _) ?_); intro ad3 n3 cp3 w7 O7 G7' L7; have G7 := (kb.out G7').1; have k71 := (kb.out G7').2.1; have f71 := (kb.out G7').2.2)
    all_goals
      go_wp2
      go_ret
      refine ⟨rfl, k, w6, _, HSP2.out, H6.out, HM6.out.bl, HM6.out.ch, w7, _, rfl, G7, O7, ?_⟩
      rcases L7 with e | e
      · exact .inl e
      · exact .inr ⟨_, e, by show _ ≤ (World.alloc _ _).heap.size; simp⟩
end Go.Proofs.YtapdhkgeolcogaaGreatDoor
namespace Go.Proofs.YtapdhkgeolcogaaGreatDoor
open Go.RowKit Dsk
set_option linter.unusedVariables false
set_option maxRecDepth 10000

namespace Dsk
/-- A write that was done: its file, its bytes, its number as long as it waits. -/
structure En where
  nm : List UInt8
  b : List UInt8
  no : Option Int
def En.rw (a : En) : Rw := ⟨a.nm, a.b, a.no.isNone⟩
def flt (A : List En) (x : List UInt8) : List En := A.filter fun a => a.nm == x
def En.w (a : En) : Option (Int × Nat) := a.no.map fun n => (n, a.b.length)
structure Rel (s : St) (N : List (List UInt8)) (L : List Rw) (A : List En) : Prop where
  hL : L = A.map En.rw
  hN : N = srtS (s.l.map (·.1))
  hb : ∀ p ∈ s.l, p.2.by_ = (flt A p.1).flatMap (·.b)
  hw : ∀ p ∈ s.l, p.2.ws = (flt A p.1).filterMap En.w
  hk : ∀ a ∈ A, a.nm ∈ s.l.map (·.1)
  hn : (A.filterMap (·.no)).Pairwise (· < ·)
  hm : ∀ i ∈ A.filterMap (·.no), i < s.m
  ho : A.Pairwise fun a b => a.nm = b.nm → a.no ≠ none → b.no ≠ none
theorem fm_congr {α β : Type} {f g : α → List β} : ∀ {l : List α}, (∀ x ∈ l, f x = g x) → l.flatMap f = l.flatMap g
  | [], _ => rfl
  | a :: l, h => by rw [List.flatMap_cons, List.flatMap_cons, h a (by simp), fm_congr fun x hx => h x (by simp [hx])]
theorem perm_parts : ∀ (K : List (List UInt8)) (A : List En), K.Nodup → (∀ a ∈ A, a.nm ∈ K) → (K.flatMap (flt A)).Perm A
  | [], A, _, h => by
    have : A = [] := by
      cases A with
      | nil => rfl
      | cons a A => have := h a (by simp); simp at this
    subst this
    simp
  | x :: K, A, hn, h => by
    rw [List.nodup_cons] at hn
    have e : K.flatMap (flt A) = K.flatMap (flt (A.filter fun a => !(a.nm == x))) := by
      refine fm_congr fun y hy => ?_
      unfold flt
      rw [List.filter_filter]
      refine List.filter_congr fun a ha => ?_
      by_cases h1 : a.nm = y
      · have : ¬ a.nm = x := fun c => hn.1 (by rw [← c, h1]; exact hy)
        simp [h1]
        rw [← h1]; exact this
      · simp [h1]
    have ih := perm_parts K (A.filter fun a => !(a.nm == x)) hn.2 fun a ha => by
      rw [List.mem_filter] at ha
      rcases List.mem_cons.1 (h a ha.1) with c | c
      · simp [c] at ha
      · exact c
    rw [List.flatMap_cons, e]
    exact (List.Perm.append_left _ ih).trans (List.filter_append_perm _ A)
theorem nums_rel {s : St} {N L A} (h : Rel s N L A) (nd : (s.l.map (·.1)).Nodup) : (nums s.l).Perm (A.filterMap (·.no)) := by
  have e : nums s.l = ((s.l.map (·.1)).flatMap (flt A)).filterMap (·.no) := by
    unfold nums
    rw [List.filterMap_flatMap, List.flatMap_map]
    refine fm_congr fun p hp => ?_
    rw [h.hw p hp, List.map_filterMap]
    refine congrFun (congrArg List.filterMap (funext fun a => ?_)) _
    unfold En.w
    cases a.no <;> rfl
  rw [e]
  exact (perm_parts _ A nd h.hk).filterMap _
theorem tot_rel {s : St} {N L A} (h : Rel s N L A) (nd : (s.l.map (·.1)).Nodup) : rtot L = tot s.l := by
  have e1 : tot s.l = (((s.l.map (·.1)).flatMap (flt A)).flatMap (·.b)).length := by
    unfold tot
    rw [List.flatMap_assoc, List.flatMap_map, List.length_flatMap]
    refine congrArg List.sum (List.map_congr_left fun p hp => ?_)
    rw [h.hb p hp]
  have e2 : rtot L = (A.flatMap (·.b)).length := by
    rw [h.hL]
    unfold rtot
    rw [List.length_flatMap, List.map_map]
    rfl
  rw [e1, e2]
  exact ((perm_parts _ A nd h.hk).flatMap_right _).length_eq.symm
theorem wait_rel {s : St} {N L A} (h : Rel s N L A) (nd : (s.l.map (·.1)).Nodup) : rwait L = wait s.l := by
  rw [← wait_nums, (nums_rel h nd).length_eq, h.hL]
  unfold rwait
  clear h
  induction A with
  | nil => rfl
  | cons a A ih =>
    obtain ⟨nm, b, no⟩ := a
    cases no with
    | none => simpa [En.rw] using ih
    | some i => simpa [En.rw] using ih
theorem has_rel {s : St} {N L A} (h : Rel s N L A) (x : List UInt8) : rhas N x = has s.l x := by
  rw [h.hN, Bool.eq_iff_iff]
  unfold rhas has
  rw [List.any_eq_true, List.any_eq_true]
  constructor
  · rintro ⟨y, hy, e⟩
    obtain ⟨p, hp, e2⟩ := List.mem_map.1 (mem_srtS.1 hy)
    exact ⟨p, hp, by rw [e2]; exact e⟩
  · rintro ⟨p, hp, e⟩
    exact ⟨p.1, mem_srtS.2 (List.mem_map.2 ⟨p, hp, rfl⟩), e⟩
theorem len_rel {s : St} {N L A} (h : Rel s N L A) : N.length = s.l.length := by rw [h.hN, srtS_len, List.length_map]
theorem rB_rel {s : St} {N L A} (h : Rel s N L A) (x : List UInt8) : rB L x = (flt A x).flatMap (·.b) := by
  rw [h.hL]
  unfold rB flt
  rw [List.filter_map, List.flatMap_map]
  rfl
theorem read_rel {s : St} {N L A} (h : Rel s N L A) (nd : (s.l.map (·.1)).Nodup) (x : List UInt8) : (if rhas N x = true then rB L x else []) = rdB s.l x := by
  rw [has_rel h, rB_rel h]
  cases hh : has s.l x with
  | false => rw [rdB_not hh]; rfl
  | true =>
    obtain ⟨f, hf⟩ := has_iff.1 hh
    rw [rdB_mem nd hf, h.hb _ hf]
    rfl
theorem hasE_rel {s : St} {N L A} (h : Rel s N L A) (x : List UInt8) : rhasE N x = hasE s.l x := by unfold rhasE hasE; rw [has_rel h]
theorem rel_new : Rel newS [] [] [] := ⟨rfl, by simp [newS, srtS], by simp [newS], by simp [newS], by simp, by simp, by simp, by simp⟩
end Dsk
end Go.Proofs.YtapdhkgeolcogaaGreatDoor
namespace Go.Proofs.YtapdhkgeolcogaaGreatDoor
open Go.RowKit Dsk
set_option linter.unusedVariables false
set_option maxRecDepth 10000

namespace Dsk
theorem srtS_pair (l : List (List UInt8)) : (srtS l).Pairwise fun a b => a ≤ b := by
  have tr : ∀ a b c : List UInt8, decide (a ≤ b) = true → decide (b ≤ c) = true → decide (a ≤ c) = true := fun a b c h1 h2 => by
    simp only [decide_eq_true_eq] at *
    exact List.le_trans h1 h2
  have tt : ∀ a b : List UInt8, (decide (a ≤ b) || decide (b ≤ a)) = true := fun a b => by
    simp only [Bool.or_eq_true, decide_eq_true_eq]
    exact List.le_total a b
  exact (List.pairwise_mergeSort tr tt l).imp fun h => by simpa using h
theorem srtS_eq {N l : List (List UInt8)} (hp : N.Pairwise fun a b => a ≤ b) (h : N.Perm l) : N = srtS l := by
  rw [← srtS_perm h]
  exact (List.mergeSort_of_pairwise (hp.imp fun h => by simpa using h)).symm
theorem bytesLess_eq : ∀ (x y : List UInt8), Op.bytesLess x y = decide (x < y)
  | [], [] => by simp [Op.bytesLess]
  | _ :: _, [] => by simp [Op.bytesLess]
  | [], _ :: _ => by simp [Op.bytesLess]
  | a :: x, b :: y => by
    rw [Op.bytesLess, bytesLess_eq x y]
    simp only [List.cons_lt_cons_iff]
    by_cases h1 : a < b <;> by_cases h2 : a = b <;> by_cases h3 : x < y <;> simp [h1, h2, h3]
theorem srtS_ins {K : List (List UInt8)} {x : List UInt8} {k : Nat} (h : Spot (srtS K) x k) : (srtS K).take k ++ x :: (srtS K).drop k = srtS (K ++ [x]) := by
  obtain ⟨h1, h2, h3⟩ := h
  have hp := srtS_pair K
  have hpm : (srtS K).Perm K := List.mergeSort_perm _ _
  generalize srtS K = N at *
  refine srtS_eq ?_ ?_
  · rw [← List.take_append_drop k N, List.pairwise_append] at hp
    obtain ⟨p1, p2, p3⟩ := hp
    rw [List.pairwise_append, List.pairwise_cons]
    have hx : ∀ y ∈ N.drop k, x ≤ y := fun y hy => by
      cases hd : N.drop k with
      | nil => rw [hd] at hy; simp at hy
      | cons z R =>
        have hz : N[k]? = some z := by rw [← List.head?_drop, hd]; rfl
        have h4 := h3 z hz
        rw [bytesLess_eq, decide_eq_false_iff_not] at h4
        have h5 : x ≤ z := List.not_lt.1 h4
        rw [hd] at hy p2
        rcases List.mem_cons.1 hy with e | e
        · rw [e]; exact h5
        · exact List.le_trans h5 ((List.pairwise_cons.1 p2).1 y e)
    refine ⟨p1, ⟨hx, p2⟩, fun a ha b hb => ?_⟩
    have h4 := h2 a ha
    rw [bytesLess_eq, decide_eq_true_eq] at h4
    rcases List.mem_cons.1 hb with e | e
    · rw [e]; exact List.le_of_lt h4
    · exact p3 a ha b e
  · have e1 : (N.take k ++ x :: N.drop k).Perm (x :: (N.take k ++ N.drop k)) := List.perm_middle
    rw [List.take_append_drop] at e1
    exact (e1.trans (hpm.cons x)).trans (List.perm_append_singleton x K).symm
theorem srtS_filter (K : List (List UInt8)) (p : List UInt8 → Bool) : (srtS K).filter p = srtS (K.filter p) :=
  srtS_eq ((srtS_pair K).filter p) ((List.mergeSort_perm _ _).filter p)
theorem flt_app (A : List En) (a : En) (x : List UInt8) : flt (A ++ [a]) x = if a.nm = x then flt A x ++ [a] else flt A x := by
  unfold flt
  by_cases h : a.nm = x
  · simp [h]
  · simp [h]
theorem mem_keys {L : Ds} {x : List UInt8} : x ∈ L.map (·.1) ↔ has L x = true := by
  rw [has_iff, List.mem_map]
  constructor
  · rintro ⟨p, hp, e⟩; exact ⟨p.2, by rw [← e]; exact hp⟩
  · rintro ⟨f, hf⟩; exact ⟨_, hf, rfl⟩
theorem rel_app {s : St} {N L A} (h : Rel s N L A) (x l : List UInt8) (he : appE s.l x l.length = 0) (N' : List (List UInt8)) (hN : if rhas N x = true then N' = N else ∃ k, Spot N x k ∧ N' = N.take k ++ x :: N.drop k) :
    Rel (appS s x l) N' (L ++ [⟨x, l, false⟩]) (A ++ [⟨x, l, some s.m⟩]) := by
  have eS : appS s x l = ⟨if has s.l x = true then setF s.l x (appF s.m l) else s.l ++ [(x, appF s.m l ⟨[], []⟩)], s.m + 1⟩ := by unfold appS; rw [if_pos he]
  rw [has_rel h] at hN
  have nil : has s.l x = false → flt A x = [] := fun hh => by
    unfold flt
    rw [List.filter_eq_nil_iff]
    intro a ha c
    have := mem_keys.1 (h.hk a ha)
    have c' : a.nm = x := by simpa using c
    rw [c', hh] at this
    cases this
  have hn : (A ++ [⟨x, l, some s.m⟩] : List En).filterMap (·.no) = A.filterMap (·.no) ++ [s.m] := by simp
  have all : ∀ p ∈ (appS s x l).l, p.2.by_ = (flt (A ++ [⟨x, l, some s.m⟩]) p.1).flatMap (·.b) ∧ p.2.ws = (flt (A ++ [⟨x, l, some s.m⟩]) p.1).filterMap En.w := by
    intro p hp
    rw [eS] at hp
    simp only at hp
    rw [flt_app]
    cases hh : has s.l x with
    | true =>
      rw [hh] at hp
      simp only [if_true] at hp
      unfold setF at hp
      obtain ⟨q, hq, e⟩ := List.mem_map.1 hp
      by_cases c : q.1 = x
      · rw [if_pos c] at e
        subst e
        rw [if_pos c.symm]
        simp [appF, h.hb q hq, h.hw q hq, En.w]
      · rw [if_neg c] at e
        subst e
        rw [if_neg fun e => c e.symm]
        exact ⟨h.hb _ hq, h.hw _ hq⟩
    | false =>
      rw [hh] at hp
      simp only [Bool.false_eq_true, if_false] at hp
      rcases List.mem_append.1 hp with hp | hp
      · have c : ¬ x = p.1 := fun e => has_not hh p hp e.symm
        rw [if_neg c]
        exact ⟨h.hb _ hp, h.hw _ hp⟩
      · simp at hp
        subst hp
        simp [nil hh, appF, En.w]
  have keys : (appS s x l).l.map (·.1) = if has s.l x = true then s.l.map (·.1) else s.l.map (·.1) ++ [x] := by
    rw [eS]
    cases hh : has s.l x
    · simp
    · simp [setF_keys]
  refine ⟨by rw [h.hL]; simp [En.rw], ?_, fun p hp => (all p hp).1, fun p hp => (all p hp).2, fun a ha => ?_, ?_, ?_, ?_⟩
  · rw [keys]
    cases hh : has s.l x with
    | true =>
      rw [hh] at hN
      simp only [if_true] at hN ⊢
      rw [hN]; exact h.hN
    | false =>
      rw [hh] at hN
      simp only [Bool.false_eq_true, if_false] at hN ⊢
      obtain ⟨k, hs, e⟩ := hN
      rw [e]
      rw [h.hN] at hs ⊢
      exact srtS_ins hs
  · rw [keys]
    rcases List.mem_append.1 ha with ha | ha
    · have := h.hk a ha
      split
      · exact this
      · simp only [List.mem_append]; exact .inl this
    · simp at ha
      subst ha
      simp only
      split
      · next hh => exact mem_keys.2 hh
      · simp
  · rw [hn, List.pairwise_append]
    exact ⟨h.hn, by simp, fun a ha b hb => by simp at hb; rw [hb]; exact h.hm a ha⟩
  · intro i hi
    rw [hn] at hi
    rw [eS]
    show i < s.m + 1
    rcases List.mem_append.1 hi with hi | hi
    · have := h.hm i hi; omega
    · simp at hi; omega
  · rw [List.pairwise_append]
    exact ⟨h.ho, by simp, fun a ha b hb => by simp at hb; rw [hb]; simp⟩
end Dsk
end Go.Proofs.YtapdhkgeolcogaaGreatDoor
namespace Go.Proofs.YtapdhkgeolcogaaGreatDoor
open Go.RowKit Dsk
set_option linter.unusedVariables false
set_option maxRecDepth 10000

namespace Dsk
theorem keys_sync (s : St) (nm : List UInt8) : (syncS s nm).l.map (·.1) = s.l.map (·.1) := setF_keys s.l nm fun f => ⟨f.by_, []⟩
def En.cal (x : List UInt8) (a : En) : En := if a.nm = x then ⟨a.nm, a.b, none⟩ else a
theorem cal_nm (x : List UInt8) (a : En) : (a.cal x).nm = a.nm := by unfold En.cal; split <;> rfl
theorem cal_b (x : List UInt8) (a : En) : (a.cal x).b = a.b := by unfold En.cal; split <;> rfl
theorem flt_map (A : List En) (f : En → En) (hf : ∀ a, (f a).nm = a.nm) (x : List UInt8) : flt (A.map f) x = (flt A x).map f := by
  unfold flt
  rw [List.filter_map]
  refine congrArg (List.map f) (List.filter_congr fun a _ => ?_)
  simp only [Function.comp, hf]
theorem flt_nm {A : List En} {x : List UInt8} {a : En} (h : a ∈ flt A x) : a.nm = x ∧ a ∈ A := by
  unfold flt at h
  rw [List.mem_filter] at h
  exact ⟨by simpa using h.2, h.1⟩
theorem cal_sub (x : List UInt8) : ∀ A : List En, ((A.map (En.cal x)).filterMap (·.no)).Sublist (A.filterMap (·.no))
  | [] => by simp
  | a :: A => by
    have ih := cal_sub x A
    obtain ⟨nm, b, no⟩ := a
    by_cases c : nm = x
    · cases no with
      | none => simpa [En.cal, c] using ih
      | some i =>
        rw [List.map_cons, show En.cal x ⟨nm, b, some i⟩ = ⟨nm, b, none⟩ from if_pos c]
        exact ih.cons i
    · cases no with
      | none => simpa [En.cal, c] using ih
      | some i => simpa [En.cal, c] using ih
theorem rel_sync {s : St} {N L A} (h : Rel s N L A) (x : List UInt8) : Rel (syncS s x) N (syncR L x) (A.map (En.cal x)) := by
  have key : (syncS s x).l.map (·.1) = s.l.map (·.1) := keys_sync s x
  have all : ∀ p ∈ (syncS s x).l, p.2.by_ = (flt (A.map (En.cal x)) p.1).flatMap (·.b) ∧ p.2.ws = (flt (A.map (En.cal x)) p.1).filterMap En.w := by
    intro p hp
    unfold syncS setF at hp
    obtain ⟨q, hq, e⟩ := List.mem_map.1 hp
    rw [flt_map A _ (cal_nm x)]
    by_cases c : q.1 = x
    · rw [if_pos c] at e
      subst e
      refine ⟨?_, ?_⟩
      · show q.2.by_ = _
        rw [h.hb q hq, List.flatMap_map]
        exact fm_congr fun a _ => (cal_b x a).symm
      · show [] = _
        refine Eq.symm ?_
        rw [List.filterMap_eq_nil_iff]
        intro a ha
        obtain ⟨b, hb, e⟩ := List.mem_map.1 ha
        have : b.nm = x := (flt_nm hb).1.trans c
        rw [← e]
        simp [En.cal, this, En.w]
    · rw [if_neg c] at e
      subst e
      have e2 : (flt A q.1).map (En.cal x) = flt A q.1 := by
        conv => rhs; rw [← List.map_id (flt A q.1)]
        refine List.map_congr_left fun a ha => ?_
        have : ¬ a.nm = x := fun e => c ((flt_nm ha).1.symm.trans e)
        simp [En.cal, this]
      rw [e2]
      exact ⟨h.hb q hq, h.hw q hq⟩
  refine ⟨?_, by rw [key]; exact h.hN, fun p hp => (all p hp).1, fun p hp => (all p hp).2, fun a ha => ?_, h.hn.sublist (cal_sub x A), fun i hi => h.hm i ((cal_sub x A).subset hi), ?_⟩
  · rw [h.hL]
    unfold syncR
    rw [List.map_map, List.map_map]
    refine List.map_congr_left fun a _ => ?_
    simp only [Function.comp]
    by_cases c : a.nm = x
    · simp [En.rw, En.cal, c]
    · simp [En.rw, En.cal, c]
  · obtain ⟨b, hb, e⟩ := List.mem_map.1 ha
    rw [key, ← e, cal_nm]
    exact h.hk b hb
  · rw [List.pairwise_map]
    refine h.ho.imp fun {a b} hab => ?_
    rw [cal_nm, cal_nm]
    intro e
    have := hab e
    by_cases c : a.nm = x
    · simp [En.cal, c]
    · have c' : ¬ b.nm = x := fun d => c (e.trans d)
      simp [En.cal, c, c']
      simpa using this
theorem sync_none {s : St} {N L A} (h : Rel s N L A) {x : List UInt8} (hx : rhas N x = false) : syncR L x = L := by
  rw [has_rel h] at hx
  unfold syncR
  conv => rhs; rw [← List.map_id L]
  refine List.map_congr_left fun y hy => ?_
  rw [h.hL] at hy
  obtain ⟨a, ha, e⟩ := List.mem_map.1 hy
  have h1 := mem_keys.1 (h.hk a ha)
  have : ¬ y.nm = x := fun c => by
    rw [← e] at c
    have c' : a.nm = x := c
    rw [c', hx] at h1
    cases h1
  simp [this]
theorem rel_rem {s : St} {N L A} (h : Rel s N L A) (x : List UInt8) : Rel (remS s x) (N.filter fun y => y != x) (L.filter fun y => y.nm != x) (A.filter fun a => a.nm != x) := by
  have key : (remS s x).l.map (·.1) = (s.l.map (·.1)).filter fun y => y != x := by
    unfold remS
    rw [List.filter_map]
    rfl
  have fl : ∀ y, y ≠ x → flt (A.filter fun a => a.nm != x) y = flt A y := fun y hy => by
    unfold flt
    rw [List.filter_filter]
    refine List.filter_congr fun a _ => ?_
    by_cases c : a.nm = y
    · simp [c, hy]
    · simp [c]
  have mem : ∀ p ∈ (remS s x).l, p ∈ s.l ∧ p.1 ≠ x := fun p hp => by
    unfold remS at hp
    rw [List.mem_filter] at hp
    exact ⟨hp.1, by simpa using hp.2⟩
  have sub : (A.filter fun a => a.nm != x).Sublist A := List.filter_sublist
  refine ⟨?_, by rw [key, h.hN]; exact srtS_filter _ _, fun p hp => ?_, fun p hp => ?_, fun a ha => ?_, h.hn.sublist (sub.filterMap _), fun i hi => h.hm i ((sub.filterMap _).subset hi), h.ho.sublist sub⟩
  · rw [h.hL, List.filter_map]
    rfl
  · rw [fl _ (mem p hp).2]; exact h.hb p (mem p hp).1
  · rw [fl _ (mem p hp).2]; exact h.hw p (mem p hp).1
  · rw [List.mem_filter] at ha
    rw [key, List.mem_filter]
    exact ⟨h.hk a ha.1, ha.2⟩
theorem rem_none {s : St} {N L A} (h : Rel s N L A) {x : List UInt8} (hx : rhas N x = false) : (N.filter fun y => y != x) = N ∧ (L.filter fun y => y.nm != x) = L := by
  have hx' := hx
  rw [has_rel h] at hx
  constructor
  · rw [List.filter_eq_self]
    intro y hy
    unfold rhas at hx'
    rw [List.any_eq_false] at hx'
    have := hx' y hy
    simpa using this
  · rw [List.filter_eq_self]
    intro y hy
    rw [h.hL] at hy
    obtain ⟨a, ha, e⟩ := List.mem_map.1 hy
    have h1 := mem_keys.1 (h.hk a ha)
    have : ¬ y.nm = x := fun c => by
      rw [← e] at c
      have c' : a.nm = x := c
      rw [c', hx] at h1
      cases h1
    simpa using this
def crB (nx torn : Int) (a : En) : List UInt8 := match a.no with | none => a.b | some i => a.b.take (stays nx torn (i, a.b.length))
def gone (nx torn : Int) (a : En) : Nat := match a.no with | none => 0 | some i => a.b.length - stays nx torn (i, a.b.length)
theorem lost_gone (nx torn : Int) : ∀ F : List En, lost nx torn (F.filterMap En.w) = (F.map (gone nx torn)).sum
  | [] => rfl
  | a :: F => by
    have ih := lost_gone nx torn F
    unfold lost at ih ⊢
    obtain ⟨nm, b, no⟩ := a
    cases no with
    | none => exact ih.trans (Nat.zero_add _).symm
    | some i => simp [En.w, gone, ih]
theorem gone_crB (nx torn : Int) (a : En) : crB nx torn a = a.b.take (a.b.length - gone nx torn a) ∧ gone nx torn a ≤ a.b.length := by
  unfold crB gone
  cases a.no with
  | none => simp
  | some i =>
    have := stays_le nx torn (i, a.b.length)
    simp only at this ⊢
    refine ⟨?_, by omega⟩
    congr 1
    omega
theorem cut_file (nx torn : Int) : ∀ F : List En, (F.Pairwise fun a b => gone nx torn a ≠ 0 → gone nx torn b = b.b.length) → (F.flatMap (·.b)).take ((F.flatMap (·.b)).length - (F.map (gone nx torn)).sum) = F.flatMap (crB nx torn)
  | [], _ => rfl
  | a :: F, h => by
    rw [List.pairwise_cons] at h
    have ih := cut_file nx torn F h.2
    obtain ⟨e1, e2⟩ := gone_crB nx torn a
    have le : (F.map (gone nx torn)).sum ≤ (F.flatMap (·.b)).length := by
      clear ih h
      induction F with
      | nil => simp
      | cons c F ih => have := (gone_crB nx torn c).2; simp at ih ⊢; omega
    rw [List.flatMap_cons, List.flatMap_cons, List.map_cons, List.sum_cons, List.length_append]
    by_cases c : gone nx torn a = 0
    · rw [e1, c, Nat.sub_zero, List.take_length]
      have : a.b.length + (F.flatMap (·.b)).length - (0 + (F.map (gone nx torn)).sum) = a.b.length + ((F.flatMap (·.b)).length - (F.map (gone nx torn)).sum) := by omega
      rw [this, List.take_length_add_append, ih]
    · have h1 : ∀ b ∈ F, gone nx torn b = b.b.length := fun b hb => h.1 b hb c
      have h2 : (F.map (gone nx torn)).sum = (F.flatMap (·.b)).length := by
        rw [List.length_flatMap]
        exact congrArg List.sum (List.map_congr_left h1)
      have h3 : F.flatMap (crB nx torn) = [] := by
        rw [List.flatMap_eq_nil_iff]
        intro b hb
        rw [(gone_crB nx torn b).1, h1 b hb]
        simp
      rw [h2, h3, List.append_nil, e1]
      have : a.b.length + (F.flatMap (·.b)).length - (gone nx torn a + (F.flatMap (·.b)).length) = a.b.length - gone nx torn a := by omega
      rw [this, List.take_append_of_le_length (by omega)]
theorem crR_rel (nx : Int) (torn : Int) (K : Nat) : ∀ (A : List En) (n : Nat), (∀ j i, (A.filterMap (·.no))[j]? = some i → ((i < nx ↔ n + j < K) ∧ (nx < i ↔ K < n + j))) → crR K torn.toNat n (A.map En.rw) = A.map fun a => (⟨a.nm, crB nx torn a, true⟩ : Rw)
  | [], _, _ => rfl
  | a :: A, n, h => by
    obtain ⟨nm, b, no⟩ := a
    rw [List.map_cons, List.map_cons, crR]
    cases no with
    | none =>
      have ih := crR_rel nx torn K A n fun j i hj => h j i (by simpa using hj)
      congr 1
    | some i =>
      have ih := crR_rel nx torn K A (n + 1) fun j i hj => by
        have := h (j + 1) i (by simpa using hj)
        rw [show n + 1 + j = n + (j + 1) by omega]
        exact this
      have h0 := h 0 i (by simp)
      rw [Nat.add_zero] at h0
      congr 1
      unfold crOne crB En.rw stays
      simp only [Option.isNone_some, Bool.false_eq_true, if_false]
      by_cases c1 : K < n
      · rw [if_pos c1, if_neg (fun d => by have := h0.1.1 d; omega), if_pos (h0.2.2 c1)]
        simp
      · rw [if_neg c1]
        by_cases c2 : n = K
        · rw [if_pos c2, if_neg (fun d => by have := h0.1.1 d; omega), if_neg (fun d => by have := h0.2.1 d; omega)]
          congr 1
          by_cases c3 : torn.toNat ≤ b.length
          · rw [Nat.min_eq_left c3]
          · rw [Nat.min_eq_right (by omega), List.take_of_length_le (by omega), List.take_of_length_le (by omega)]
        · rw [if_neg c2, if_pos (h0.1.2 (by omega)), List.take_of_length_le (by omega)]
theorem behind_rel {s : St} {N L A} (h : Rel s N L A) (nd : (s.l.map (·.1)).Nodup) (K : Nat) : ∀ j i, (A.filterMap (·.no))[j]? = some i → ((i < behind s K ↔ j < K) ∧ (behind s K < i ↔ K < j)) := by
  intro j i hj
  have hp := nums_rel h nd
  have hs : sorted (nums s.l) = A.filterMap (·.no) := by
    rw [sorted_perm hp]
    exact List.mergeSort_of_pairwise (h.hn.imp fun h => by simp; omega)
  have hi : i < s.m := h.hm i (List.mem_of_getElem? hj)
  unfold behind
  rw [hs, hp.length_eq]
  have hn := h.hn
  generalize A.filterMap (·.no) = W at hj hn
  obtain ⟨hlt, hv⟩ := List.getElem?_eq_some_iff.1 hj
  by_cases c : W.length ≤ K
  · rw [if_pos c]
    constructor <;> omega
  · rw [if_neg c]
    have hK : K < W.length := by omega
    have e : W.getD K 0 = W[K] := by simp [List.getD, hK]
    rw [e]
    rw [List.pairwise_iff_getElem] at hn
    rcases Nat.lt_trichotomy j K with d | d | d
    · have := hn j K hlt hK d
      rw [hv] at this
      constructor <;> omega
    · subst d
      rw [hv]
      constructor <;> omega
    · have := hn K j hK hlt d
      rw [hv] at this
      constructor <;> omega
theorem rel_crash {s : St} {N L A} (h : Rel s N L A) (nd : (s.l.map (·.1)).Nodup) (keep torn : Int) :
    Rel (crashS s keep torn) N (crR keep.toNat torn.toNat 0 L) (A.map fun a => ⟨a.nm, crB (behind s keep.toNat) torn a, none⟩) := by
  have hB := behind_rel h nd keep.toNat
  have key : (crashS s keep torn).l.map (·.1) = s.l.map (·.1) := by
    unfold crashS
    rw [List.map_map]
    rfl
  generalize hnx : behind s keep.toNat = nx at hB ⊢
  have no0 : (A.map fun a => (⟨a.nm, crB nx torn a, none⟩ : En)).filterMap (·.no) = [] := by
    rw [List.filterMap_eq_nil_iff]
    intro a ha
    obtain ⟨b, _, e⟩ := List.mem_map.1 ha
    rw [← e]
  have ho2 : A.Pairwise fun a b => a.nm = b.nm → gone nx torn a ≠ 0 → gone nx torn b = b.b.length := by
    have h1 := h.hn
    rw [List.pairwise_filterMap] at h1
    refine (h.ho.and h1).imp fun {a b} ⟨x1, x2⟩ e g => ?_
    unfold gone at g ⊢
    cases ha : a.no with
    | none => rw [ha] at g; simp at g
    | some i =>
      rw [ha] at g
      simp only at g
      have hb := x1 e (by rw [ha]; simp)
      cases hb2 : b.no with
      | none => exact absurd hb2 hb
      | some j =>
        have := x2 i ha j hb2
        have h3 : ¬ i < nx := fun c => by simp [stays, c] at g
        simp only
        unfold stays
        rw [if_neg (by omega), if_pos (by omega)]
        omega
  refine ⟨?_, by rw [key]; exact h.hN, fun p hp => ?_, fun p hp => ?_, fun a ha => ?_, by rw [no0]; exact List.Pairwise.nil, by rw [no0]; simp, ?_⟩
  · rw [h.hL, crR_rel nx torn keep.toNat A 0 fun j i hj => by rw [Nat.zero_add]; exact hB j i hj, List.map_map]
    rfl
  · unfold crashS at hp
    obtain ⟨q, hq, e⟩ := List.mem_map.1 hp
    rw [← e, flt_map A (fun a => ⟨a.nm, crB nx torn a, none⟩) fun _ => rfl, List.flatMap_map]
    show (q.2.crash (behind s keep.toNat) torn).by_ = (flt A q.1).flatMap (crB nx torn)
    rw [hnx, ← cut_file nx torn (flt A q.1), ← lost_gone, ← h.hw q hq, ← h.hb q hq]
    · rfl
    · refine (ho2.filter _).imp_of_mem fun {a b} ha hb hab => ?_
      exact hab ((flt_nm ha).1.trans (flt_nm hb).1.symm)
  · unfold crashS at hp
    obtain ⟨q, hq, e⟩ := List.mem_map.1 hp
    rw [← e, flt_map A (fun a => ⟨a.nm, crB nx torn a, none⟩) fun _ => rfl]
    show [] = _
    refine Eq.symm ?_
    rw [List.filterMap_eq_nil_iff]
    intro a ha
    obtain ⟨b, _, e⟩ := List.mem_map.1 ha
    rw [← e]
    rfl
  · obtain ⟨b, hb, e⟩ := List.mem_map.1 ha
    rw [key, ← e]
    exact h.hk b hb
  · rw [List.pairwise_map]
    refine h.ho.imp fun {a b} _ _ c => ?_
    exact absurd rfl c
end Dsk
end Go.Proofs.YtapdhkgeolcogaaGreatDoor
namespace Go.Proofs.YtapdhkgeolcogaaGreatDoor
open Go.RowKit Dsk
set_option linter.unusedVariables false
set_option maxRecDepth 10000

theorem put_rf {q : Nat} {vN vL : Value} {N : List (List UInt8)} {L : List Rw} {x l : List UInt8} {w w' : World} (h : RfD w q vN vL N L) (p : PutOut q vL L x l w w') :
    ∃ vL', RfD w' q vN vL' N (L ++ [⟨x, l, false⟩]) ∧ (vL'.ownBlock = vL.ownBlock ∨ ∃ k, vL'.ownBlock = some k ∧ w.heap.size ≤ k) ∧ Chg (fun j => j = q ∨ vL.ownBlock = some j) w w' := by
  obtain ⟨w7, vL', rfl, g, o, hb⟩ := p
  have nq : some q ≠ vL.ownBlock := fun e => h.nL e.symm
  have qw : q < w.heap.size := World.block_lt_of_cell? w _ h.c0
  have gs := grown_set w7 ⟨q, 1, none⟩ vL'
  have n7 : vL'.ownBlock ≠ some q := fun e => by
    rcases hb with c | ⟨j, c, hj⟩
    · exact h.nL (c ▸ e)
    · rw [c] at e; injection e with e; omega
  refine ⟨vL', ⟨(set_other (by simp)).trans (g.cell h.c0 nq), set_same (g.cell h.c1 nq), fun i => (World.frozen?_setCell _ _ _ _).trans ?_, (h.oN.but g fun k hk e => h.ap k hk e).but gs fun k hk e => h.nN (by injection e with e; have e2 : q = k := e; rw [e2]; exact hk), o.but gs fun k hk e => n7 (by injection e with e; have e2 : q = k := e; rw [e2]; exact hk), h.nN, n7, fun k hk e => ?_⟩, hb, ?_⟩
  · rw [World.frozen?_of_block (w := w) (a := ⟨q, i, none⟩) (g.block q qw nq)]
    exact h.fr i
  · rcases hb with c | ⟨j, c, hj⟩
    · exact h.ap k hk (c ▸ e)
    · rw [c] at e; injection e with e
      have := (h.oN.lt k hk).2
      omega
  · exact (Chg.of (F := fun j => j = q ∨ vL.ownBlock = some j) g fun k hk => .inr hk).grown gs fun k hk => .inl (.inl (by injection hk with hk; exact hk.symm))
theorem out_of {q : Nat} {N' : List (List UInt8)} {L' : List Rw} {G : Nat → Prop} {w w' : World} {vN' vL' : Value} (h : RfD w' q vN' vL' N' L') (hq : G q) (hlt : ∀ k, G k → k < w.heap.size) (bN : ∀ k, vN'.ownBlock = some k → G k ∨ w.heap.size ≤ k) (bL : ∀ k, vL'.ownBlock = some k → G k ∨ w.heap.size ≤ k) (C : Chg G w w') : ROut q N' L' G w w' := by
  have z := C.size
  have qw := hlt q hq
  exact ⟨fun k => k < w'.heap.size ∧ (G k ∨ w.heap.size ≤ k), ⟨vN', vL', h, ⟨by omega, .inl hq⟩, fun k hk => ⟨(h.oN.lt k hk).2, bN k hk⟩, fun k hk => ⟨(h.oL.lt k hk).2, bL k hk⟩, fun k hk => hk.1⟩, fun k hk => hk.2, C⟩
def rappE (N : List (List UInt8)) (L : List Rw) (x : List UInt8) (n : Nat) : Int := if isNm x = false then 1 else if (rhas N x = false ∧ 64 ≤ N.length) ∨ 1048576 < rtot L + n then 3 else 0
def AppTo (N : List (List UInt8)) (L : List Rw) (x l : List UInt8) (N' : List (List UInt8)) (L' : List Rw) : Prop := (rappE N L x l.length ≠ 0 → N' = N ∧ L' = L) ∧ (rappE N L x l.length = 0 → L' = L ++ [⟨x, l, false⟩] ∧ if rhas N x = true then N' = N else ∃ k, Spot N x k ∧ N' = N.take k ++ x :: N.drop k)
theorem rapp_any (q : Nat) (N : List (List UInt8)) (L : List Rw) (G : Nat → Prop) (x l : List UInt8) (v : Value) (hx : x.length ≤ 140737488351232) (hl : l.length ≤ 140737488351232) (hN : N.length ≤ 64) (hL : L.length ≤ 1000000000) (ht : rtot L ≤ 1048576) (w : World) (h : Rf w q N L G) (hX : eB.Rx w v l) (hdj : l ≠ [] → ∀ j, v.ownBlock = some j → ¬ G j) :
    Calls Tryz.prog 22 #[.pointer (some ⟨q, 0, none⟩), .string ⟨x.toArray⟩, v] w fun e w' => e = .returned (.int .i64 (rappE N L x l.length)) ∧ ∃ N' L', ROut q N' L' G w w' ∧ AppTo N L x l N' L' := by
  obtain ⟨ad, c, rfl⟩ := hX.form
  obtain ⟨vN, vL, h1, h2, h3, h4, h5⟩ := id h
  cases hb : isNm x with
  | false =>
    have he : rappE N L x l.length = 1 := by unfold rappE; rw [if_pos hb]
    refine (rapp_bad q x hx _ hb w).mono ?_
    rintro e w' ⟨rfl, rfl⟩
    exact ⟨by rw [he], N, L, h.outs (grown_refl _ _), fun _ => ⟨rfl, rfl⟩, fun c => by rw [he] at c; cases c⟩
  | true =>
    by_cases hf : (rhas N x = false ∧ 64 ≤ N.length) ∨ 1048576 < rtot L + l.length
    · have he : rappE N L x l.length = 3 := by unfold rappE; rw [if_neg (by rw [hb]; simp), if_pos hf]
      refine (rapp_full q vN vL N L x hx ad l.length c hl hb hN hL ht hf w h1).mono ?_
      rintro e w' ⟨rfl, rfl⟩
      exact ⟨by rw [he], N, L, h.outs (grown_refl _ _), fun _ => ⟨rfl, rfl⟩, fun c => by rw [he] at c; cases c⟩
    · have he : rappE N L x l.length = 0 := by unfold rappE; rw [if_neg (by rw [hb]; simp), if_neg hf]
      have hroom : rtot L + l.length ≤ 1048576 := by
        have : ¬ 1048576 < rtot L + l.length := fun c => hf (.inr c)
        omega
      cases hh : rhas N x with
      | true =>
        refine (rapp_old q vN vL N L x hx ad l.length c l rfl hb hN hL hroom hh w h1 hX).mono ?_
        rintro e w' ⟨rfl, p⟩
        obtain ⟨vL', r, bl, C⟩ := put_rf h1 p
        refine ⟨by rw [he], N, _, out_of r h2 h5 (fun k hk => .inl (h3 k hk)) (fun k hk => ?_) (C.wide fun k hk => ?_), fun c => absurd he c, fun _ => ⟨rfl, by rw [if_pos hh]⟩⟩
        · rcases bl with e | ⟨j, e, hj⟩
          · exact .inl (h4 k (e ▸ hk))
          · rw [e] at hk; injection hk with hk; exact .inr (by omega)
        · rcases hk with e | e
          · rw [e]; exact h2
          · exact h4 k e
      | false =>
        have h64 : N.length < 64 := by
          have : ¬ 64 ≤ N.length := fun c => hf (.inl ⟨hh, c⟩)
          omega
        refine (rapp_no q vN vL N L x hx ad l.length c l rfl hb hN hL hroom hh h64 w h1 hX fun hne j hj => ⟨fun e => hdj hne j hj (by rw [e]; exact h2), fun e => hdj hne j hj (h3 j e)⟩).mono ?_
        rintro e w' ⟨rfl, k, w6, vN6, sp, r6, bN, C6, p⟩
        obtain ⟨vL', r, bl, C⟩ := put_rf r6 p
        have z6 := C6.size
        refine ⟨by rw [he], _, _, out_of r h2 h5 (fun k hk => ?_) (fun k hk => ?_) ?_, fun c => absurd he c, fun _ => ⟨rfl, by rw [if_neg (by rw [hh]; simp)]; exact ⟨k, sp, rfl⟩⟩⟩
        · rcases bN with e | ⟨j, e, hj⟩
          · exact .inl (h3 k (e ▸ hk))
          · rw [e] at hk; injection hk with hk; exact .inr (by omega)
        · rcases bl with e | ⟨j, e, hj⟩
          · exact .inl (h4 k (e ▸ hk))
          · rw [e] at hk; injection hk with hk; exact .inr (by omega)
        · refine (C6.wide (G := G) fun k hk => ?_).trans C fun k hk => .inl ?_
          · rcases hk with e | e
            · rw [e]; exact h2
            · exact h3 k e
          · rcases hk with e | e
            · rw [e]; exact h2
            · exact h4 k e

end Go.Proofs.YtapdhkgeolcogaaGreatDoor
