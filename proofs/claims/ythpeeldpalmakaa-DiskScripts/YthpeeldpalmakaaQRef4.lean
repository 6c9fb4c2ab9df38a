/- The reference's Remove. -/
import Derived.Test.YthpeeldpalmakaaQRef3
namespace Go.Proofs.Ythpeeldpalmakaa
open Go.RowKit Dsk
set_option linter.unusedVariables false

theorem rx_str (w : World) (x : List UInt8) (ob : Obj) (hob : ob = Obj.cells #[.string ⟨x.toArray⟩] 9) : eS.Rx (w.alloc ob) (.slice (some ⟨w.heap.size, 0, none⟩) 1 1) [x] := Elm.rx_one fun j u hu => by
  match j, hu with
  | 0, hu => injection hu with hu; rw [← hu, hob]; exact new_at w rfl rfl
theorem rx_rw (w : World) (y : Rw) (ob : Obj) (hob : ob = Obj.cells #[.string ⟨y.nm.toArray⟩, .string ⟨y.b.toArray⟩, .bool y.sy] 51) : eR.Rx (w.alloc ob) (.slice (some ⟨w.heap.size, 0, none⟩) 1 1) [y] := Elm.rx_one fun j u hu => by
  match j, hu with
  | 0, hu => injection hu with hu; rw [← hu, hob]; exact new_at w rfl rfl
  | 1, hu => injection hu with hu; rw [← hu, hob]; exact new_at w rfl rfl
  | 2, hu => injection hu with hu; rw [← hu, hob]; exact new_at w rfl rfl
theorem filter_next {α : Type} {p : α → Bool} {L : List α} {k : Nat} {y : α} (h : L[k]? = some y) : (L.take (k + 1)).filter p = (L.take k).filter p ++ if p y = true then [y] else [] := by
  rw [List.take_add_one, h, List.filter_append]
  cases hp : p y <;> simp [hp]
set_option maxRecDepth 100000 in
set_option maxHeartbeats 1600000 in
theorem rrem_no (q : Nat) (x : List UInt8) (w : World) (HS : Calls Try.prog 25 #[.pointer (some ⟨q, 0, none⟩), .string ⟨x.toArray⟩] w fun e w' => e = .returned (.bool false) ∧ w' = w) :
    Calls Try.prog 12 #[.pointer (some ⟨q, 0, none⟩), .string ⟨x.toArray⟩] w fun e w' => e = .returned (.int .i64 80) ∧ w' = w := by
  go_enter Try.func12, Try.ntmps12
  go_wp2_with (go_at_call 25; (with_reducible refine HS.mono ?_); rintro e w1 ⟨rfl, rfl⟩)
  go_ret
  exact ⟨rfl, rfl⟩
/-- What Remove leaves, as the walk meets it. -/
def RemOut (q : Nat) (N' : List (List UInt8)) (L' : List Rw) (w w' : World) : Prop := ∃ w5 vN vL, w' = (w5.setCell ⟨q, 0, none⟩ vN).setCell ⟨q, 1, none⟩ vL ∧ w.grownBy w5 none ∧ eS.Own w5 w.heap.size vN N' ∧ eR.Own w5 w.heap.size vL L' ∧ ∀ k, vN.ownBlock = some k → vL.ownBlock ≠ some k
theorem rem_rf {q : Nat} {vN vL vN' vL' : Value} {N N' : List (List UInt8)} {L L' : List Rw} {G : Nat → Prop} {w w5 : World} (h : RfD w q vN vL N L) (hq : G q) (hlt : ∀ k, G k → k < w.heap.size) (g : w.grownBy w5 none) (oN : eS.Own w5 w.heap.size vN' N') (oL : eR.Own w5 w.heap.size vL' L') (ap : ∀ k, vN'.ownBlock = some k → vL'.ownBlock ≠ some k) :
    ROut q N' L' G w ((w5.setCell ⟨q, 0, none⟩ vN').setCell ⟨q, 1, none⟩ vL') := by
  have z := g.size
  have qw := hlt q hq
  have s1 := grown_set w5 ⟨q, 0, none⟩ vN'
  have s2 := grown_set (w5.setCell ⟨q, 0, none⟩ vN') ⟨q, 1, none⟩ vL'
  have nN : ∀ k, vN'.ownBlock = some k → k ≠ q := fun k hk e => by have := (oN.lt k hk).1; omega
  have nL : ∀ k, vL'.ownBlock = some k → k ≠ q := fun k hk e => by have := (oL.lt k hk).1; omega
  refine ⟨fun k => k < w5.heap.size ∧ (G k ∨ w.heap.size ≤ k), ⟨vN', vL', ⟨(set_other (by simp)).trans (set_same (g.cell h.c0 (by simp))), set_same ((set_other (by simp)).trans (g.cell h.c1 (by simp))), fun i => ?_, ((oN.low (Nat.zero_le _)).but s1 fun k hk e => nN k hk (by injection e with e; exact e.symm)).but s2 fun k hk e => nN k hk (by injection e with e; exact e.symm), ((oL.low (Nat.zero_le _)).but s1 fun k hk e => nL k hk (by injection e with e; exact e.symm)).but s2 fun k hk e => nL k hk (by injection e with e; exact e.symm), fun e => nN q e rfl, fun e => nL q e rfl, ap⟩, ⟨by omega, .inl hq⟩, fun k hk => ⟨(oN.lt k hk).2, .inr (oN.lt k hk).1⟩, fun k hk => ⟨(oL.lt k hk).2, .inr (oL.lt k hk).1⟩, fun k hk => by rw [size_set, size_set]; exact hk.1⟩, fun k hk => hk.2, ?_⟩
  · rw [World.frozen?_setCell, World.frozen?_setCell, World.frozen?_of_block (w := w) (a := ⟨q, i, none⟩) (g.block q qw (by simp))]
    exact h.fr i
  · exact ((Chg.of (F := G) g (by simp)).grown s1 fun k hk => .inl (by injection hk with hk; rw [← hk]; exact hq)).grown s2 fun k hk => .inl (by injection hk with hk; rw [← hk]; exact hq)
set_option maxRecDepth 100000 in
set_option maxHeartbeats 3200000 in
theorem rrem_yes (q : Nat) (vN vL : Value) (N : List (List UInt8)) (L : List Rw) (x : List UInt8) (hN : N.length ≤ 64) (hL : L.length ≤ 1000000) (w : World) (h : RfD w q vN vL N L) (HS : Calls Try.prog 25 #[.pointer (some ⟨q, 0, none⟩), .string ⟨x.toArray⟩] w fun e w' => e = .returned (.bool true) ∧ w' = w) :
    Calls Try.prog 12 #[.pointer (some ⟨q, 0, none⟩), .string ⟨x.toArray⟩] w fun e w' => e = .returned (.int .i64 0) ∧ RemOut q (N.filter fun y => y != x) (L.filter fun y => y.nm != x) w w' := by
  obtain ⟨aN, cN, rfl⟩ := Elm.form h.oN
  obtain ⟨aL, cL, rfl⟩ := Elm.form h.oL
  have c0 := h.c0
  have c1 := h.c1
  have f0 := h.fr 0
  have f1 := h.fr 1
  have qw : q < w.heap.size := World.block_lt_of_cell? w _ c0
  have H : Hid (RfD w q (.slice aN N.length cN) (.slice aL L.length cL) N L) := h
  clear h
  go_enter Try.func12, Try.ntmps12
  go_wp2_with (go_at_call 25; (with_reducible refine HS.mono ?_); rintro e w1 ⟨rfl, e1⟩; have e1' := e1.symm; clear e1; subst e1')
  go_loopw [5, 6] (fun v i wr => ∃ (k : Nat) (ad : Option Addr) (n c : Nat), k ≤ N.length ∧ i = .int .i64 k ∧ v = .slice ad n c ∧ eS.Own wr w.heap.size (.slice ad n c) ((N.take k).filter fun y => y != x) ∧ w.grownBy wr none) (fun _ i _ => N.length - (intOf i).toNat)
  case atStart => exact ⟨0, none, 0, 0, by omega, rfl, rfl, Elm.nil _ _, grown_refl _ _⟩
  case round =>
    obtain ⟨k, ad, n, c, hk, rfl, rfl, hO, hg⟩ := hrel
    have c0r := hg.cell c0 (by simp)
    have hzg := hg.size
    by_cases hlt : k < N.length
    · obtain ⟨y, hy⟩ : ∃ y, N[k]? = some y := ⟨_, List.getElem?_eq_getElem hlt⟩
      obtain ⟨g, o, h1, h2, _⟩ := (H.out.grown hg).oN.idx (by omega) hy
      have h1' : ∀ W, (Instr.indexAt 27 (.slice aN N.length cN) (.int .i64 (k : Int))).run Try.prog W = .ok (.pointer (some ⟨g, o, none⟩)) W := h1
      have z0 : wr.cell? ⟨g, o, none⟩ = some (.string ⟨y.toArray⟩) := h2 0 _ rfl
      have HNX : Hid ((N.take (k + 1)).filter (fun y => y != x) = (N.take k).filter (fun y => y != x) ++ if (y != x) = true then [y] else []) := filter_next hy
      have hfl : ((N.take k).filter fun y => y != x).length ≤ 64 := Nat.le_trans (List.length_filter_le _ _) (by rw [List.length_take]; omega)
      by_cases e : y = x
      · subst e
        have HNX2 : Hid ((N.take (k + 1)).filter (fun z => z != y) = (N.take k).filter (fun z => z != y)) := by
          show _ = _
          rw [HNX.out]; simp
        clear hy HNX h1 h2
        go_wp2
        go_roundw
        case rel => exact ⟨k + 1, ad, n, c, by omega, by go_num, rfl, by rw [HNX2.out]; exact hO, hg⟩
        case measure => simp [intOf]; omega
      · have e1 := str_ne e
        have e2 : (y == x) = false := by simpa using e
        have HNX2 : Hid ((N.take (k + 1)).filter (fun z => z != x) = (N.take k).filter (fun z => z != x) ++ [y]) := by
          show _ = _
          rw [HNX.out, if_pos (by simpa using e)]
        generalize (N.take k).filter (fun z => z != x) = R at hO HNX2 hfl
        have ol : ∀ j, (Value.slice ad n c).ownBlock = some j → w.heap.size ≤ j := fun j hj => (hO.lt j hj).1
        have W6 : ∀ ob, eS.Own (wr.alloc ob) w.heap.size (.slice ad n c) R := fun ob => hO.grown (World.grownBy_alloc wr ob none)
        have zb : ∀ ob, w.heap.size ≤ (wr.alloc ob).heap.size := fun ob => by simp; omega
        have GA : ∀ ob, w.grownBy (wr.alloc ob) none := fun ob => grown_alloc hg ob
        clear hy HNX h1 h2 hO
        go_wp2_with (at_builtin; refine Elm.wpList_append (E := eS) rfl (.tmp 31) (.tmp 39) rfl w.heap.size (.slice ad n c) R rfl (W6 _) _ [y] rfl (rx_str _ _ _ rfl) (by simp; omega) (by show (R.length + 1) * 16 ≤ _; omega) (zb _) ?_; intro a2 n2 c2 w2 O2 G2 _)
        go_roundw
        case rel => exact ⟨k + 1, a2, n2, c2, by omega, by go_num, rfl, by rw [HNX2.out]; exact O2, grown_more (GA _) G2 (fun j hj => .inr (ol j hj))⟩
        case measure => simp [intOf]; omega
    · have e : N.take k = N := List.take_of_length_le (by omega)
      rw [e] at hO
      have HO1 : Hid (eS.Own wr w.heap.size (.slice ad n c) (N.filter fun y => y != x)) := hO
      obtain ⟨w3, hw3⟩ : ∃ w3, w3 = wr := ⟨_, rfl⟩
      have blk : ∀ j, (Value.slice ad n c).ownBlock = some j → j < w3.heap.size := fun j hj => by rw [hw3]; exact (hO.lt j hj).2
      have HG3 : Hid (w.grownBy w3 none) := by rw [hw3]; exact hg
      have HO3 : Hid (eS.Own w3 w.heap.size (.slice ad n c) (N.filter fun y => y != x)) := by rw [hw3]; exact hO
      have c1r := hg.cell c1 (by simp)
      clear e hO hg HO1
      rw [← hw3] at hzg c0r c1r ⊢
      clear hw3
      go_wp2
      clear c0r c1r
      go_loopw [7, 8] (fun v i wr => ∃ (k : Nat) (ad : Option Addr) (n c : Nat), k ≤ L.length ∧ i = .int .i64 k ∧ v = .slice ad n c ∧ eR.Own wr w3.heap.size (.slice ad n c) ((L.take k).filter fun y => y.nm != x) ∧ w3.grownBy wr none) (fun _ i _ => L.length - (intOf i).toNat)
      case atStart => exact ⟨0, none, 0, 0, by omega, rfl, rfl, Elm.nil _ _, grown_refl _ _⟩
      case round =>
        obtain ⟨k2, ad2, n2, c2, hk2, rfl, rfl, hO2, hg2⟩ := hrel
        have gg : w.grownBy wr none := grown_more HG3.out hg2 (by simp)
        have c1r := gg.cell c1 (by simp)
        have hzg2 := hg2.size
        by_cases hlt2 : k2 < L.length
        · obtain ⟨y, hy⟩ : ∃ y, L[k2]? = some y := ⟨_, List.getElem?_eq_getElem hlt2⟩
          obtain ⟨g, o, h1, z0, z1, z2⟩ := (H.out.grown gg).at_ hL hy
          have HNX : Hid ((L.take (k2 + 1)).filter (fun y => y.nm != x) = (L.take k2).filter (fun y => y.nm != x) ++ if (y.nm != x) = true then [y] else []) := filter_next hy
          have hfl : ((L.take k2).filter fun y => y.nm != x).length ≤ 1000000 := Nat.le_trans (List.length_filter_le _ _) (by rw [List.length_take]; omega)
          by_cases e : y.nm = x
          · have HNX2 : Hid ((L.take (k2 + 1)).filter (fun z => z.nm != x) = (L.take k2).filter (fun z => z.nm != x)) := by
              show _ = _
              rw [HNX.out]; simp [e]
            rw [e] at z0
            clear hy HNX e z1 z2
            go_wp2
            go_roundw
            case rel => exact ⟨k2 + 1, ad2, n2, c2, by omega, by go_num, rfl, by rw [HNX2.out]; exact hO2, hg2⟩
            case measure => simp [intOf]; omega
          · have e1 := str_ne e
            have e2 : (y.nm == x) = false := by simpa using e
            have HNX2 : Hid ((L.take (k2 + 1)).filter (fun z => z.nm != x) = (L.take k2).filter (fun z => z.nm != x) ++ [y]) := by
              show _ = _
              rw [HNX.out, if_pos (by simpa using e)]
            generalize (L.take k2).filter (fun z => z.nm != x) = R at hO2 HNX2 hfl
            have ol : ∀ j, (Value.slice ad2 n2 c2).ownBlock = some j → w3.heap.size ≤ j := fun j hj => (hO2.lt j hj).1
            have W6 : ∀ ob, eR.Own (wr.alloc ob) w3.heap.size (.slice ad2 n2 c2) R := fun ob => hO2.grown (World.grownBy_alloc wr ob none)
            have zb : ∀ ob, w3.heap.size ≤ (wr.alloc ob).heap.size := fun ob => by simp; omega
            have GA : ∀ ob, w3.grownBy (wr.alloc ob) none := fun ob => grown_alloc hg2 ob
            clear hy HNX hO2
            go_wp2_with (at_builtin; refine Elm.wpList_append (E := eR) rfl (.tmp 60) (.tmp 68) rfl w3.heap.size (.slice ad2 n2 c2) R rfl (W6 _) _ [y] rfl (rx_rw _ _ _ rfl) (by simp; omega) (by show (R.length + 1) * 40 ≤ _; omega) (zb _) ?_; intro a4 n4 c4 w4 O4 G4 _)
            go_roundw
            case rel => exact ⟨k2 + 1, a4, n4, c4, by omega, by go_num, rfl, by rw [HNX2.out]; exact O4, grown_more (GA _) G4 (fun j hj => .inr (ol j hj))⟩
            case measure => simp [intOf]; omega
        · have e : L.take k2 = L := List.take_of_length_le (by omega)
          rw [e] at hO2
          have f0r : wr.frozen? ⟨q, 0, none⟩ = false := by rw [World.frozen?_of_block (w := w) (a := ⟨q, 0, none⟩) (gg.block q qw (by simp))]; exact f0
          have f1r : wr.frozen? ⟨q, 1, none⟩ = false := by rw [World.frozen?_of_block (w := w) (a := ⟨q, 1, none⟩) (gg.block q qw (by simp))]; exact f1
          have c0r := gg.cell c0 (by simp)
          have HF : Hid (∀ j, (Value.slice ad n c).ownBlock = some j → (Value.slice ad2 n2 c2).ownBlock ≠ some j) := fun j hj e => by
            have a1 := blk j hj
            have a2 := (hO2.lt j e).1
            omega
          have HO4 : Hid (eR.Own wr w.heap.size (.slice ad2 n2 c2) (L.filter fun y => y.nm != x)) := hO2.low HG3.out.size
          have HO5 := HO3.out.grown hg2
          clear e hO2
          go_wp2
          go_ret
          exact ⟨rfl, wr, _, _, rfl, gg, HO5, HO4.out, HF.out⟩
theorem rrem_any (q : Nat) (N : List (List UInt8)) (L : List Rw) (G : Nat → Prop) (x : List UInt8) (hN : N.length ≤ 64) (hL : L.length ≤ 1000000) (w : World) (h : Rf w q N L G) :
    Calls Try.prog 12 #[.pointer (some ⟨q, 0, none⟩), .string ⟨x.toArray⟩] w fun e w' => e = .returned (.int .i64 (rhasE N x)) ∧ ROut q (if rhas N x = true then N.filter fun y => y != x else N) (if rhas N x = true then L.filter fun y => y.nm != x else L) G w w' := by
  obtain ⟨vN, vL, h1, h2, h3, h4, h5⟩ := id h
  have HS := rhas_any q vN vL N L x hN w h1
  unfold rhasE
  cases hh : rhas N x with
  | true =>
    have hh' : (N.any fun y => y == x) = true := hh
    rw [hh'] at HS
    refine (rrem_yes q vN vL N L x hN hL w h1 HS).mono ?_
    rintro e w' ⟨rfl, w5, vN', vL', rfl, g, oN, oL, ap⟩
    exact ⟨rfl, rem_rf h1 h2 h5 g oN oL ap⟩
  | false =>
    have hh' : (N.any fun y => y == x) = false := hh
    rw [hh'] at HS
    refine (rrem_no q x w HS).mono ?_
    rintro e w' ⟨rfl, rfl⟩
    exact ⟨rfl, h.outs (grown_refl _ _)⟩
end Go.Proofs.Ythpeeldpalmakaa
