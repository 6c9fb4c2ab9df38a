/- The reference's Crash. -/
import Derived.Test.YthpeeldpalmakaaQRef4
namespace Go.Proofs.Ythpeeldpalmakaa
open Go.RowKit Dsk
set_option linter.unusedVariables false

/-- One write behind a crash; n unsynced ones lie ahead of it. -/
def crOne (K T n : Nat) (y : Rw) : Rw := if y.sy = true then y else { nm := y.nm, b := if K < n then [] else if n = K then y.b.take T else y.b, sy := true }
def crR (K T : Nat) : Nat → List Rw → List Rw
  | _, [] => []
  | n, y :: l => crOne K T n y :: crR K T (n + if y.sy = true then 0 else 1) l
theorem crR_len (K T : Nat) : ∀ (L : List Rw) (n : Nat), (crR K T n L).length = L.length
  | [], _ => rfl
  | y :: l, n => by simp [crR, crR_len K T l]
theorem crR_append (K T : Nat) : ∀ (l : List Rw) (n : Nat) (y : Rw), crR K T n (l ++ [y]) = crR K T n l ++ [crOne K T (n + rwait l) y]
  | [], n, y => by simp [crR, rwait]
  | z :: l, n, y => by
    rw [List.cons_append, crR, crR_append K T l, crR, List.cons_append]
    have e : n + (if z.sy = true then 0 else 1) + rwait l = n + rwait (z :: l) := by
      unfold rwait
      cases h : z.sy
      · simp [h]; omega
      · simp [h]
    rw [e]
theorem crR_take {K T : Nat} {L : List Rw} {k : Nat} {y : Rw} (h : L[k]? = some y) : crR K T 0 (L.take (k + 1)) = crR K T 0 (L.take k) ++ [crOne K T (rwait (L.take k)) y] := by
  rw [List.take_add_one, h]
  have := crR_append K T (L.take k) 0 y
  rw [Nat.zero_add] at this
  exact this
theorem rx_rw2 (w : World) (o1 : Obj) (y : Rw) (ob : Obj) (hob : ob = Obj.cells #[.string ⟨y.nm.toArray⟩, .string ⟨y.b.toArray⟩, .bool y.sy] 51) : eR.Rx ((w.alloc o1).alloc ob) (.slice (some ⟨w.heap.size + 1, 0, none⟩) 1 1) [y] := by
  have := rx_rw (w.alloc o1) y ob hob
  rw [show (w.alloc o1).heap.size = w.heap.size + 1 by simp] at this
  exact this
theorem ba_take (l : List UInt8) (T : Nat) : (⟨l.toArray⟩ : ByteArray).extract 0 T = ⟨(l.take T).toArray⟩ := by
  apply ByteArray.ext
  rw [ByteArray.data_extract]
  simp
theorem rwait_le (L : List Rw) : rwait L ≤ L.length := List.length_filter_le _ _
set_option maxRecDepth 100000 in
set_option maxHeartbeats 1600000 in
theorem rcrash_walk (q : Nat) (vN vL : Value) (N : List (List UInt8)) (L : List Rw) (keep torn : Int) (hL : L.length ≤ 1000000) (w : World) (h : RfD w q vN vL N L) :
    Calls Try.prog 13 #[.pointer (some ⟨q, 0, none⟩), .int .i64 keep, .int .i64 torn] w fun e w' => e = .returned (.tuple #[]) ∧ ∃ w5 vL', w' = w5.setCell ⟨q, 1, none⟩ vL' ∧ w.grownBy w5 none ∧ eR.Own w5 w.heap.size vL' (crR keep.toNat torn.toNat 0 L) := by
  obtain ⟨aL, cL, rfl⟩ := Elm.form h.oL
  have c1 := h.c1
  have f1 := h.fr 1
  have qw : q < w.heap.size := World.block_lt_of_cell? w _ c1
  have H : Hid (RfD w q vN (.slice aL L.length cL) N L) := h
  clear h
  go_enter Try.func13, Try.ntmps13
  go_step
  go_step
  go_cut [2] from 10 to 11 (fun v w' => v = .int .i64 (torn.toNat : Int) ∧ w' = w)
  case first =>
    by_cases h : torn < 0
    · have e : (torn.toNat : Int) = 0 := by omega
      go_wp2_with fail
      go_meet
      exact ⟨by rw [e], rfl⟩
    · have e : (torn.toNat : Int) = torn := by omega
      go_wp2_with fail
      go_meet
      exact ⟨by rw [e], rfl⟩
  case rest =>
    obtain ⟨rfl, e0⟩ := hcut
    have e1 := e0.symm
    clear e0
    subst e1
    generalize hT : torn.toNat = T
    have HT : Hid (torn.toNat = T) := hT
    clear hT
    go_step
    go_step
    go_cut [1] from 12 to 13 (fun v w' => v = .int .i64 (keep.toNat : Int) ∧ w' = w)
    case first =>
      by_cases h : keep < 0
      · have e : (keep.toNat : Int) = 0 := by omega
        go_wp2_with fail
        go_meet
        exact ⟨by rw [e], rfl⟩
      · have e : (keep.toNat : Int) = keep := by omega
        go_wp2_with fail
        go_meet
        exact ⟨by rw [e], rfl⟩
    case rest =>
      obtain ⟨rfl, e0⟩ := hcut
      have e1 := e0.symm
      clear e0
      subst e1
      generalize hK : keep.toNat = K
      have HK : Hid (keep.toNat = K) := hK
      clear hK
      go_wp2_with fail
      go_loopw [6, 7, 8] (fun v m i wr => ∃ (k : Nat) (ad : Option Addr) (n c : Nat), k ≤ L.length ∧ i = .int .i64 k ∧ m = .int .i64 (rwait (L.take k) : Nat) ∧ v = .slice ad n c ∧ eR.Own wr w.heap.size (.slice ad n c) (crR K T 0 (L.take k)) ∧ w.grownBy wr none) (fun _ _ i _ => L.length - (intOf i).toNat)
      case atStart => exact ⟨0, none, 0, 0, by omega, rfl, rfl, rfl, Elm.nil _ _, grown_refl _ _⟩
      case round =>
        obtain ⟨k, ad, n, c, hk, rfl, rfl, rfl, hO, hg⟩ := hrel
        have c1r := hg.cell c1 (by simp)
        have hzg := hg.size
        by_cases hlt : k < L.length
        · obtain ⟨y, hy⟩ : ∃ y, L[k]? = some y := ⟨_, List.getElem?_eq_getElem hlt⟩
          obtain ⟨g, o, h1, z0, z1, z2⟩ := (H.out.grown hg).at_ hL hy
          have HNX : Hid (crR K T 0 (L.take (k + 1)) = crR K T 0 (L.take k) ++ [crOne K T (rwait (L.take k)) y]) := crR_take hy
          have HWX : Hid (rwait (L.take (k + 1)) = rwait (L.take k) + if y.sy = true then 0 else 1) := rwait_take hy
          have hl1 : (crR K T 0 (L.take k)).length ≤ 1000000 := by rw [crR_len, List.length_take]; omega
          have hw1 : rwait (L.take k) ≤ 1000000 := Nat.le_trans (rwait_le _) (by rw [List.length_take]; omega)
          generalize crR K T 0 (L.take k) = R at hO HNX hl1
          generalize rwait (L.take k) = m at HNX HWX hw1 ⊢
          have ol : ∀ j, (Value.slice ad n c).ownBlock = some j → w.heap.size ≤ j := fun j hj => (hO.lt j hj).1
          have W6 : ∀ o1 o2, eR.Own ((wr.alloc o1).alloc o2) w.heap.size (.slice ad n c) R := fun o1 o2 => (hO.grown (World.grownBy_alloc wr o1 none)).grown (World.grownBy_alloc _ o2 none)
          have zb : ∀ o1 o2, w.heap.size ≤ ((wr.alloc o1).alloc o2).heap.size := fun o1 o2 => by simp; omega
          have GA : ∀ o1 o2, w.grownBy ((wr.alloc o1).alloc o2) none := fun o1 o2 => grown_alloc (grown_alloc hg o1) o2
          have ES : Hid ((#[] : Array UInt8) = ([] : List UInt8).toArray) := rfl
          obtain ⟨yn, yb, ys⟩ := y
          simp only at z0 z1 z2
          cases ys with
          | true =>
            have HNX2 : Hid (crR K T 0 (L.take (k + 1)) = R ++ [⟨yn, yb, true⟩]) := HNX.out
            have HWX2 : Hid (rwait (L.take (k + 1)) = m) := HWX.out
            clear hy HNX HWX hO
            go_wp2_with (at_builtin; refine Elm.wpList_append (E := eR) rfl (.tmp 55) (.tmp 57) rfl w.heap.size (.slice ad n c) R rfl (W6 _ _) _ [⟨yn, yb, true⟩] rfl (rx_rw2 _ _ ⟨yn, yb, true⟩ _ rfl) (by simp; omega) (by show (R.length + 1) * 40 ≤ _; omega) (zb _ _) ?_; intro a2 n2 c2 w2 O2 G2 _)
            go_roundw
            case rel => exact ⟨k + 1, a2, n2, c2, by omega, by go_num, by rw [HWX2.out]; try go_num, rfl, by rw [HNX2.out]; exact O2, grown_more (GA _ _) G2 (fun j hj => .inr (ol j hj))⟩
            case measure => simp [intOf]; omega
          | false =>
            have HWX2 : Hid (rwait (L.take (k + 1)) = m + 1) := HWX.out
            have HNX1 : Hid (crR K T 0 (L.take (k + 1)) = R ++ [⟨yn, if K < m then [] else if m = K then yb.take T else yb, true⟩]) := HNX.out
            clear hy HNX HWX hO
            by_cases q1 : K < m
            · have HNX2 : Hid (crR K T 0 (L.take (k + 1)) = R ++ [⟨yn, [], true⟩]) := by rw [HNX1.out, if_pos q1]; exact rfl
              have q2 : ((m : Int) == (K : Int)) = false := by simp; omega
              have q3 : ¬ (m : Int) = (K : Int) := by omega
              have q4 : ¬ m = K := by omega
              clear HNX1
              go_wp2_with (at_builtin; refine Elm.wpList_append (E := eR) rfl (.tmp 55) (.tmp 57) rfl w.heap.size (.slice ad n c) R rfl (W6 _ _) _ [⟨yn, [], true⟩] rfl (rx_rw2 _ _ ⟨yn, [], true⟩ _ rfl) (by simp; omega) (by show (R.length + 1) * 40 ≤ _; omega) (zb _ _) ?_; intro a2 n2 c2 w2 O2 G2 _)
              go_roundw
              case rel => exact ⟨k + 1, a2, n2, c2, by omega, by go_num, by rw [HWX2.out]; try go_num, rfl, by rw [HNX2.out]; exact O2, grown_more (GA _ _) G2 (fun j hj => .inr (ol j hj))⟩
              case measure => simp [intOf]; omega
            · by_cases q4 : m = K
              · have HK2 : Hid (keep.toNat = m) := HK.out.trans q4.symm
                clear HK
                subst q4
                by_cases q5 : T < yb.length
                · have HNX2 : Hid (crR m T 0 (L.take (k + 1)) = R ++ [⟨yn, yb.take T, true⟩]) := by rw [HNX1.out, if_neg q1, if_pos rfl]; exact rfl
                  clear HNX1
                  have EX : Hid ((⟨yb.toArray⟩ : ByteArray).extract 0 T = ⟨(yb.take T).toArray⟩) := ba_take yb T
                  go_wp2_with (at_builtin; refine Elm.wpList_append (E := eR) rfl (.tmp 55) (.tmp 57) rfl w.heap.size (.slice ad n c) R rfl (W6 _ _) _ [⟨yn, yb.take T, true⟩] rfl (rx_rw2 _ _ ⟨yn, yb.take T, true⟩ _ (by rw [EX.out])) (by simp; omega) (by show (R.length + 1) * 40 ≤ _; omega) (zb _ _) ?_; intro a2 n2 c2 w2 O2 G2 _)
                  go_roundw
                  case rel => exact ⟨k + 1, a2, n2, c2, by omega, by go_num, by rw [HWX2.out]; try go_num, rfl, by rw [HNX2.out]; exact O2, grown_more (GA _ _) G2 (fun j hj => .inr (ol j hj))⟩
                  case measure => simp [intOf]; omega
                · have HNX2 : Hid (crR m T 0 (L.take (k + 1)) = R ++ [⟨yn, yb, true⟩]) := by rw [HNX1.out, if_neg q1, if_pos rfl, List.take_of_length_le (by omega)]; exact rfl
                  clear HNX1
                  go_wp2_with (at_builtin; refine Elm.wpList_append (E := eR) rfl (.tmp 55) (.tmp 57) rfl w.heap.size (.slice ad n c) R rfl (W6 _ _) _ [⟨yn, yb, true⟩] rfl (rx_rw2 _ _ ⟨yn, yb, true⟩ _ rfl) (by simp; omega) (by show (R.length + 1) * 40 ≤ _; omega) (zb _ _) ?_; intro a2 n2 c2 w2 O2 G2 _)
                  go_roundw
                  case rel => exact ⟨k + 1, a2, n2, c2, by omega, by go_num, by rw [HWX2.out]; try go_num, rfl, by rw [HNX2.out]; exact O2, grown_more (GA _ _) G2 (fun j hj => .inr (ol j hj))⟩
                  case measure => simp [intOf]; omega
              · have HNX2 : Hid (crR K T 0 (L.take (k + 1)) = R ++ [⟨yn, yb, true⟩]) := by rw [HNX1.out, if_neg q1, if_neg q4]; exact rfl
                have q2 : ((m : Int) == (K : Int)) = false := by simp; omega
                have q3 : ¬ (m : Int) = (K : Int) := by omega
                clear HNX1
                go_wp2_with (at_builtin; refine Elm.wpList_append (E := eR) rfl (.tmp 55) (.tmp 57) rfl w.heap.size (.slice ad n c) R rfl (W6 _ _) _ [⟨yn, yb, true⟩] rfl (rx_rw2 _ _ ⟨yn, yb, true⟩ _ rfl) (by simp; omega) (by show (R.length + 1) * 40 ≤ _; omega) (zb _ _) ?_; intro a2 n2 c2 w2 O2 G2 _)
                go_roundw
                case rel => exact ⟨k + 1, a2, n2, c2, by omega, by go_num, by rw [HWX2.out]; try go_num, rfl, by rw [HNX2.out]; exact O2, grown_more (GA _ _) G2 (fun j hj => .inr (ol j hj))⟩
                case measure => simp [intOf]; omega
        · have e : L.take k = L := List.take_of_length_le (by omega)
          rw [e] at hO
          have f1r : wr.frozen? ⟨q, 1, none⟩ = false := by rw [World.frozen?_of_block (w := w) (a := ⟨q, 1, none⟩) (hg.block q qw (by simp))]; exact f1
          clear e
          go_wp2
          go_end0
          exact ⟨rfl, wr, _, rfl, hg, by rw [HT.out, HK.out]; exact hO⟩
theorem rset_rf {q : Nat} {vN vL vL' : Value} {N : List (List UInt8)} {L L' : List Rw} {G : Nat → Prop} {w w5 : World} (h : RfD w q vN vL N L) (hq : G q) (hN : ∀ k, vN.ownBlock = some k → G k) (hlt : ∀ k, G k → k < w.heap.size) (g : w.grownBy w5 none) (oL : eR.Own w5 w.heap.size vL' L') :
    ROut q N L' G w (w5.setCell ⟨q, 1, none⟩ vL') := by
  have z := g.size
  have qw := hlt q hq
  have s2 := grown_set w5 ⟨q, 1, none⟩ vL'
  have nL : ∀ k, vL'.ownBlock = some k → k ≠ q := fun k hk e => by have := (oL.lt k hk).1; omega
  refine ⟨fun k => k < w5.heap.size ∧ (G k ∨ w.heap.size ≤ k), ⟨vN, vL', ⟨(set_other (by simp)).trans (g.cell h.c0 (by simp)), set_same (g.cell h.c1 (by simp)), fun i => ?_, (h.oN.grown g).but s2 fun k hk e => h.nN (by injection e with e; have e2 : q = k := e; rw [e2]; exact hk), (oL.low (Nat.zero_le _)).but s2 fun k hk e => nL k hk (by injection e with e; exact e.symm), h.nN, fun e => nL q e rfl, fun k hk e => by have := hlt k (hN k hk); have := (oL.lt k e).1; omega⟩, ⟨by omega, .inl hq⟩, fun k hk => ⟨by have := hlt k (hN k hk); omega, .inl (hN k hk)⟩, fun k hk => ⟨(oL.lt k hk).2, .inr (oL.lt k hk).1⟩, fun k hk => by rw [size_set]; exact hk.1⟩, fun k hk => hk.2, ?_⟩
  · rw [World.frozen?_setCell, World.frozen?_of_block (w := w) (a := ⟨q, i, none⟩) (g.block q qw (by simp))]
    exact h.fr i
  · exact (Chg.of (F := G) g (by simp)).grown s2 fun k hk => .inl (by injection hk with hk; rw [← hk]; exact hq)
theorem rcrash_any (q : Nat) (N : List (List UInt8)) (L : List Rw) (G : Nat → Prop) (keep torn : Int) (hL : L.length ≤ 1000000) (w : World) (h : Rf w q N L G) :
    Calls Try.prog 13 #[.pointer (some ⟨q, 0, none⟩), .int .i64 keep, .int .i64 torn] w fun e w' => e = .returned (.tuple #[]) ∧ ROut q N (crR keep.toNat torn.toNat 0 L) G w w' := by
  obtain ⟨vN, vL, h1, h2, h3, h4, h5⟩ := id h
  refine (rcrash_walk q vN vL N L keep torn hL w h1).mono ?_
  rintro e w' ⟨rfl, w5, vL', rfl, g, oL⟩
  exact ⟨rfl, rset_rf h1 h2 h3 h5 g oL⟩
end Go.Proofs.Ythpeeldpalmakaa
