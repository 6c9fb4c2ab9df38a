/- The reference's Sync, Read, Remove. The reference's Remove. The reference's Crash. -/
import Derived.Test.YtapdhkgeolcogaaGreatDoorHb
import Derived.Lib.AppendStr
namespace Go.Proofs.YtapdhkgeolcogaaGreatDoor
open Go.RowKit Dsk
set_option linter.unusedVariables false

def rhas (N : List (List UInt8)) (x : List UInt8) : Bool := N.any fun y => y == x
def rhasE (N : List (List UInt8)) (x : List UInt8) : Int := if rhas N x = true then 0 else 80
/-- What a call on the reference's disk leaves. -/
def ROut (q : Nat) (N : List (List UInt8)) (L : List Rw) (G : Nat → Prop) (w w' : World) : Prop := ∃ G', Rf w' q N L G' ∧ (∀ k, G' k → G k ∨ w.heap.size ≤ k) ∧ Chg G w w'
theorem Rf.outs {q : Nat} {N : List (List UInt8)} {L : List Rw} {G : Nat → Prop} {w w' : World} (h : Rf w q N L G) (g : w.grownBy w' none) : ROut q N L G w w' := ⟨G, h.grown g, fun k hk => .inl hk, Chg.of g (by simp)⟩
set_option maxRecDepth 100000 in
set_option maxHeartbeats 1600000 in
theorem rsync_no (q : Nat) (x : List UInt8) (w : World) (HS : Calls Tryz.prog 48 #[.pointer (some ⟨q, 0, none⟩), .string ⟨x.toArray⟩] w fun e w' => e = .returned (.bool false) ∧ w' = w) :
    Calls Tryz.prog 36 #[.pointer (some ⟨q, 0, none⟩), .string ⟨x.toArray⟩] w fun e w' => e = .returned (.int .i64 80) ∧ w' = w := by
  go_enter Tryz.func36, Tryz.ntmps36
  go_wp2_with (go_at_call 48; (with_reducible refine HS.mono ?_); rintro e w1 ⟨rfl, rfl⟩)
  go_ret
  exact ⟨rfl, rfl⟩
set_option maxRecDepth 100000 in
set_option maxHeartbeats 1600000 in
theorem rsync_yes (q : Nat) (vN vL : Value) (N : List (List UInt8)) (L : List Rw) (x : List UInt8) (hL : L.length ≤ 1000000000) (w : World) (h : RfD w q vN vL N L) (HS : Calls Tryz.prog 48 #[.pointer (some ⟨q, 0, none⟩), .string ⟨x.toArray⟩] w fun e w' => e = .returned (.bool true) ∧ w' = w) :
    Calls Tryz.prog 36 #[.pointer (some ⟨q, 0, none⟩), .string ⟨x.toArray⟩] w fun e w' => e = .returned (.int .i64 0) ∧ eR.Own w' 0 vL (syncR L x) ∧ Chg (fun k => vL.ownBlock = some k) w w' := by
  obtain ⟨aL, cL, rfl⟩ := Elm.form h.oL
  have c1 := h.c1
  have nq : ¬ (Value.slice aL L.length cL).ownBlock = some q := h.nL
  have O0 : Hid (eR.Own w 0 (.slice aL L.length cL) (syncK L x 0)) := by rw [syncK_zero]; exact h.oL
  clear h
  go_enter Tryz.func36, Tryz.ntmps36
  go_wp2_with (go_at_call 48; (with_reducible refine HS.mono ?_); rintro e w1 ⟨rfl, e1⟩; have e1' := e1.symm; clear e1; subst e1')
  go_loopw [5] (fun i wr => ∃ k : Nat, k ≤ L.length ∧ i = .int .i64 k ∧ eR.Own wr 0 (.slice aL L.length cL) (syncK L x k) ∧ Chg (fun k => (Value.slice aL L.length cL).ownBlock = some k) w wr) (fun i _ => L.length - (intOf i).toNat)
  case atStart => exact ⟨0, by omega, rfl, O0.out, Chg.refl _ _⟩
  case round =>
    obtain ⟨k, hk, rfl, hO, hC⟩ := hrel
    have c1r := hC.cell c1 nq
    by_cases hlt : k < L.length
    · obtain ⟨y, hy⟩ : ∃ y, L[k]? = some y := ⟨_, List.getElem?_eq_getElem hlt⟩
      obtain ⟨g, o, h1, z0, z2, zf, zo, hO2⟩ := own_mark hO (by rw [syncK_len]; omega) (syncK_at x hy)
      have HNX : Hid (syncK L x (k + 1) = (syncK L x k).set k (if y.nm = x then { y with sy := true } else y)) := syncK_next x hy
      have HSA : Hid ((syncK L x k)[k]? = some y) := syncK_at x hy
      by_cases e : y.nm = x
      · have HO2 : Hid (eR.Own (wr.setCell ⟨g, o + 2, none⟩ (.bool true)) 0 (.slice aL L.length cL) (syncK L x (k + 1))) := by rw [HNX.out, if_pos e]; exact hO2
        have HC2 : Hid (Chg (fun k => (Value.slice aL L.length cL).ownBlock = some k) w (wr.setCell ⟨g, o + 2, none⟩ (.bool true))) := hC.grown (grown_set _ _ _) fun j hj => .inl (by injection hj with hj; rw [← hj]; exact zo)
        rw [e] at z0
        clear hO hO2 hy e c1 HNX HSA hC
        go_wp2
        go_roundw
        case rel => exact ⟨k + 1, by omega, by go_num, HO2.out, HC2.out⟩
        case measure => simp [intOf]; omega
      · have e1 := str_ne e
        have e2 : (y.nm == x) = false := by simpa using e
        have HO2 : Hid (eR.Own wr 0 (.slice aL L.length cL) (syncK L x (k + 1))) := by
          rw [HNX.out, if_neg e]
          have : (syncK L x k).set k y = syncK L x k := by
            obtain ⟨a1, a2⟩ := List.getElem?_eq_some_iff.1 HSA.out
            rw [← a2]
            exact List.set_getElem_self a1
          rw [this]
          exact hO
        clear hO hO2 hy c1 HNX HSA
        go_wp2
        go_roundw
        case rel => exact ⟨k + 1, by omega, by go_num, HO2.out, hC⟩
        case measure => simp [intOf]; omega
    · have e : syncK L x k = syncR L x := by rw [show k = L.length by omega]; exact syncK_all L x
      rw [e] at hO
      clear e
      go_wp2
      go_ret
      exact ⟨rfl, hO, hC⟩
theorem rsync_any (q : Nat) (N : List (List UInt8)) (L : List Rw) (G : Nat → Prop) (x : List UInt8) (hN : N.length ≤ 64) (hL : L.length ≤ 1000000000) (w : World) (h : Rf w q N L G) :
    Calls Tryz.prog 36 #[.pointer (some ⟨q, 0, none⟩), .string ⟨x.toArray⟩] w fun e w' => e = .returned (.int .i64 (rhasE N x)) ∧ ROut q N (if rhas N x = true then syncR L x else L) G w w' := by
  obtain ⟨vN, vL, h1, h2, h3, h4, h5⟩ := id h
  have HS := rhas_any q vN vL N L x hN w h1
  unfold rhasE
  cases hh : rhas N x with
  | true =>
    have hh' : (N.any fun y => y == x) = true := hh
    rw [hh'] at HS
    refine (rsync_yes q vN vL N L x hL w h1 HS).mono ?_
    rintro e w' ⟨rfl, o, C⟩
    refine ⟨rfl, G, ⟨vN, vL, ⟨C.cell h1.c0 h1.nL, C.cell h1.c1 h1.nL, fun i => (C.frozen (a := ⟨q, i, none⟩) (show q < w.heap.size from h5 q h2) h1.nL).trans (h1.fr i), h1.oN.kept C (fun k hk e => h1.ap k hk e), o, h1.nN, h1.nL, h1.ap⟩, h2, h3, h4, fun k hk => Nat.lt_of_lt_of_le (h5 k hk) C.size⟩, fun k hk => .inl hk, C.wide fun k hk => h4 k hk⟩
  | false =>
    have hh' : (N.any fun y => y == x) = false := hh
    rw [hh'] at HS
    refine (rsync_no q x w HS).mono ?_
    rintro e w' ⟨rfl, rfl⟩
    exact ⟨rfl, h.outs (grown_refl _ _)⟩
theorem map_flat (l : List UInt8) : (l.map fun b => Value.int IntKind.u8 (b.toNat : Int)) = l.flatMap fun x => [Value.int IntKind.u8 (x.toNat : Int)] := by
  induction l with
  | nil => rfl
  | cons a l ih => simp [ih]
theorem str_cells (l : List UInt8) : Go.Lib.strCells ⟨l.toArray⟩ = eB.cells l := by
  unfold Go.Lib.strCells Elm.cells
  simp [eB]
  exact map_flat l
/-- 'append(v, s...)', s a string. -/
theorem wpList_append_str {w : World} {ops : Array Oper} {rest : List Oper} {o : Oper} {a : Act} {Q : Exit → Act → World → Prop} (hgd : o.guard = none) (s x : Operand)
    (ho : o.op = .call { callee := .builtin .append, args := #[s, x], argTypes := #[39, 9] })
    (base : Nat) (v : Value) (l0 : List UInt8) (hs : a.eval s = v) (hown : eB.Own w base v l0) (l : List UInt8) (hx : a.eval x = .string ⟨l.toArray⟩)
    (hb : l0.length + l.length ≤ 140737488351232) (hbase : base ≤ w.heap.size)
    (h : ∀ ad n c w', eB.Own w' base (.slice ad n c) (l0 ++ l) → w.grownBy w' v.ownBlock → wpList Tryz.prog ops Q rest (a.put o.dst (.slice ad n c)) w') : wpList Tryz.prog ops Q (o :: rest) a w := by
  refine wpList_plain hgd fun K hK => ?_
  obtain ⟨i, hi, hz0, hz1, hz2⟩ := info_parts eB.hi
  have hsz : (⟨l.toArray⟩ : ByteArray).size = l.length := by simp [ByteArray.size]
  obtain ⟨v', w', hr, h2, h3, h4⟩ := Go.Lib.run_append_own_string (P := Tryz.prog) w base 39 9 o.type 5 i Tryz.underlying39 Tryz.underlying9 hi hz0 hz1 hz2 v l0.length (eB.cells l0) hown ⟨l.toArray⟩ (by rw [hsz]; unfold maxLen; omega) (by rw [hsz]; omega) hbase
  unfold Oper.wp execOp
  simp only [ho, resolve, invoke, builtin, Sem.run_bind, Sem.run_pure, Result.andThen_ok, List.map_toArray, List.map_cons, List.map_nil, hs, hx, hr]
  have hO : eB.Own w' base v' (l0 ++ l) := by
    unfold Elm.Own
    rw [Elm.cells_append, List.length_append]
    rw [hsz] at h2
    rw [str_cells] at h2
    exact h2
  obtain ⟨ad, c, rfl⟩ := Elm.form hO
  exact hK _ _ (h ad _ c w' hO h3)
def rB (L : List Rw) (x : List UInt8) : List UInt8 := (L.filter fun y => y.nm == x).flatMap fun y => y.b
theorem rB_take {L : List Rw} {k : Nat} {y : Rw} (x : List UInt8) (h : L[k]? = some y) : rB (L.take (k + 1)) x = if y.nm = x then rB (L.take k) x ++ y.b else rB (L.take k) x := by
  unfold rB
  rw [List.take_add_one, h, List.filter_append]
  by_cases e : y.nm = x
  · simp [e]
  · simp [e]
theorem rB_le (L : List Rw) (x : List UInt8) : (rB L x).length ≤ rtot L := by
  unfold rB rtot
  induction L with
  | nil => simp
  | cons y L ih =>
    by_cases e : y.nm = x
    · simp [e] at ih ⊢; omega
    · simp [e] at ih ⊢; omega
set_option maxRecDepth 100000 in
set_option maxHeartbeats 1600000 in
theorem rread_no (q : Nat) (x : List UInt8) (w : World) (HS : Calls Tryz.prog 48 #[.pointer (some ⟨q, 0, none⟩), .string ⟨x.toArray⟩] w fun e w' => e = .returned (.bool false) ∧ w' = w) :
    Calls Tryz.prog 25 #[.pointer (some ⟨q, 0, none⟩), .string ⟨x.toArray⟩] w fun e w' => e = .returned (.tuple #[.slice none 0 0, .int .i64 80]) ∧ w' = w := by
  go_enter Tryz.func25, Tryz.ntmps25
  go_wp2_with (go_at_call 48; (with_reducible refine HS.mono ?_); rintro e w1 ⟨rfl, rfl⟩)
  go_ret2
  exact ⟨rfl, rfl⟩
set_option maxRecDepth 100000 in
set_option maxHeartbeats 1600000 in
theorem rread_yes (q : Nat) (vN vL : Value) (N : List (List UInt8)) (L : List Rw) (x : List UInt8) (hL : L.length ≤ 1000000000) (ht : rtot L ≤ 1048576) (w : World) (h : RfD w q vN vL N L) (HS : Calls Tryz.prog 48 #[.pointer (some ⟨q, 0, none⟩), .string ⟨x.toArray⟩] w fun e w' => e = .returned (.bool true) ∧ w' = w) :
    Calls Tryz.prog 25 #[.pointer (some ⟨q, 0, none⟩), .string ⟨x.toArray⟩] w fun e w' => ∃ ad n c, e = .returned (.tuple #[.slice ad n c, .int .i64 0]) ∧ eB.Own w' w.heap.size (.slice ad n c) (rB L x) ∧ w.grownBy w' none := by
  obtain ⟨aL, cL, rfl⟩ := Elm.form h.oL
  have c1 := h.c1
  have H : Hid (RfD w q vN (.slice aL L.length cL) N L) := h
  have HTL : Hid (∀ k, (rB (L.take k) x).length ≤ 1048576) := fun k => Nat.le_trans (rB_le _ _) (Nat.le_trans (rtot_le L k) ht)
  clear h
  go_enter Tryz.func25, Tryz.ntmps25
  go_wp2_with (go_at_call 48; (with_reducible refine HS.mono ?_); rintro e w1 ⟨rfl, e1⟩; have e1' := e1.symm; clear e1; subst e1')
  go_loopw [6, 7] (fun v i wr => ∃ (k : Nat) (ad : Option Addr) (n c : Nat), k ≤ L.length ∧ i = .int .i64 k ∧ v = .slice ad n c ∧ eB.Own wr w.heap.size (.slice ad n c) (rB (L.take k) x) ∧ w.grownBy wr none) (fun _ i _ => L.length - (intOf i).toNat)
  case atStart => exact ⟨0, none, 0, 0, by omega, rfl, rfl, Elm.nil _ _, grown_refl _ _⟩
  case round =>
    obtain ⟨k, ad, n, c, hk, rfl, rfl, hO, hg⟩ := hrel
    have c1r := hg.cell c1 (by simp)
    have hzg := hg.size
    by_cases hlt : k < L.length
    · obtain ⟨y, hy⟩ : ∃ y, L[k]? = some y := ⟨_, List.getElem?_eq_getElem hlt⟩
      obtain ⟨g, o, h1, z0, z1, z2⟩ := (H.out.grown hg).at_ hL hy
      have HNX : Hid (rB (L.take (k + 1)) x = if y.nm = x then rB (L.take k) x ++ y.b else rB (L.take k) x) := rB_take x hy
      have b1 := HTL.out (k + 1)
      by_cases e : y.nm = x
      · rw [HNX.out, if_pos e, List.length_append] at b1
        have HNX2 : Hid (rB (L.take (k + 1)) x = rB (L.take k) x ++ y.b) := by rw [HNX.out, if_pos e]; exact rfl
        rw [e] at z0
        generalize rB (L.take k) x = R at hO HNX2 b1
        have ol : ∀ j, (Value.slice ad n c).ownBlock = some j → w.heap.size ≤ j := fun j hj => (hO.lt j hj).1
        clear hy e HNX z2
        go_wp2_with (at_builtin; refine wpList_append_str rfl (.tmp 31) (.tmp 39) rfl w.heap.size (.slice ad n c) R rfl hO y.b rfl (by omega) hzg ?_; intro a2 n2 c2 w2 O2 G2)
        go_roundw
        case rel => exact ⟨k + 1, a2, n2, c2, by omega, by go_num, rfl, by rw [HNX2.out]; exact O2, grown_more hg G2 (fun j hj => .inr (ol j hj))⟩
        case measure => simp [intOf]; omega
      · have e1 := str_ne e
        have e2 : (y.nm == x) = false := by simpa using e
        have HNX2 : Hid (rB (L.take (k + 1)) x = rB (L.take k) x) := by rw [HNX.out, if_neg e]; exact rfl
        clear hy HNX b1
        go_wp2
        go_roundw
        case rel => exact ⟨k + 1, ad, n, c, by omega, by go_num, rfl, by rw [HNX2.out]; exact hO, hg⟩
        case measure => simp [intOf]; omega
    · have e : L.take k = L := List.take_of_length_le (by omega)
      rw [e] at hO
      clear e HTL
      go_wp2
      go_ret2
      exact ⟨ad, n, c, rfl, hO, hg⟩
theorem rread_any (q : Nat) (N : List (List UInt8)) (L : List Rw) (G : Nat → Prop) (x : List UInt8) (hN : N.length ≤ 64) (hL : L.length ≤ 1000000000) (ht : rtot L ≤ 1048576) (w : World) (h : Rf w q N L G) :
    Calls Tryz.prog 25 #[.pointer (some ⟨q, 0, none⟩), .string ⟨x.toArray⟩] w fun e w' => ∃ ad n c, e = .returned (.tuple #[.slice ad n c, .int .i64 (rhasE N x)]) ∧ eB.Own w' w.heap.size (.slice ad n c) (if rhas N x = true then rB L x else []) ∧ w.grownBy w' none := by
  obtain ⟨vN, vL, h1, h2, h3, h4, h5⟩ := id h
  have HS := rhas_any q vN vL N L x hN w h1
  unfold rhasE
  cases hh : rhas N x with
  | true =>
    have hh' : (N.any fun y => y == x) = true := hh
    rw [hh'] at HS
    exact rread_yes q vN vL N L x hL ht w h1 HS
  | false =>
    have hh' : (N.any fun y => y == x) = false := hh
    rw [hh'] at HS
    refine (rread_no q x w HS).mono ?_
    rintro e w' ⟨rfl, rfl⟩
    exact ⟨none, 0, 0, rfl, Elm.nil _ _, grown_refl _ _⟩
end Go.Proofs.YtapdhkgeolcogaaGreatDoor
namespace Go.Proofs.YtapdhkgeolcogaaGreatDoor
open Go.RowKit Dsk
set_option linter.unusedVariables false

theorem rx_str (w : World) (x : List UInt8) (ob : Obj) (hob : ob = Obj.cells #[.string ⟨x.toArray⟩] 9) : eS.Rx (w.alloc ob) (.slice (some ⟨w.heap.size, 0, none⟩) 1 1) [x] := Elm.rx_one fun j u hu => by
  match j, hu with
  | 0, hu => injection hu with hu; rw [← hu, hob]; exact new_at w rfl rfl
theorem rx_rw (w : World) (y : Rw) (ob : Obj) (hob : ob = Obj.cells #[.string ⟨y.nm.toArray⟩, .string ⟨y.b.toArray⟩, .bool y.sy] 86) : eR.Rx (w.alloc ob) (.slice (some ⟨w.heap.size, 0, none⟩) 1 1) [y] := Elm.rx_one fun j u hu => by
  match j, hu with
  | 0, hu => injection hu with hu; rw [← hu, hob]; exact new_at w rfl rfl
  | 1, hu => injection hu with hu; rw [← hu, hob]; exact new_at w rfl rfl
  | 2, hu => injection hu with hu; rw [← hu, hob]; exact new_at w rfl rfl
theorem filter_next {α : Type} {p : α → Bool} {L : List α} {k : Nat} {y : α} (h : L[k]? = some y) : (L.take (k + 1)).filter p = (L.take k).filter p ++ if p y = true then [y] else [] := by
  rw [List.take_add_one, h, List.filter_append]
  cases hp : p y <;> simp [hp]
set_option maxRecDepth 100000 in
set_option maxHeartbeats 1600000 in
theorem rrem_no (q : Nat) (x : List UInt8) (w : World) (HS : Calls Tryz.prog 48 #[.pointer (some ⟨q, 0, none⟩), .string ⟨x.toArray⟩] w fun e w' => e = .returned (.bool false) ∧ w' = w) :
    Calls Tryz.prog 32 #[.pointer (some ⟨q, 0, none⟩), .string ⟨x.toArray⟩] w fun e w' => e = .returned (.int .i64 80) ∧ w' = w := by
  go_enter Tryz.func32, Tryz.ntmps32
  go_wp2_with (go_at_call 48; (with_reducible refine HS.mono ?_); rintro e w1 ⟨rfl, rfl⟩)
  go_ret
  exact ⟨rfl, rfl⟩
/-- What Remove leaves, as the walk meets it. -/
def RemOut (q : Nat) (N' : List (List UInt8)) (L' : List Rw) (w w' : World) : Prop := ∃ w5 vN vL, w' = (w5.setCell ⟨q, 0, none⟩ vN).setCell ⟨q, 1, none⟩ vL ∧ w.grownBy w5 none ∧ eS.Own w5 w.heap.size vN N' ∧ eR.Own w5 w.heap.size vL L' ∧ ∀ k, vN.ownBlock = some k → vL.ownBlock ≠ some k
theorem rem_rf {q : Nat} {vN vL vN' vL' : Value} {N N' : List (List UInt8)} {L L' : List Rw} {G : Nat → Prop} {w w5 : World} (h : RfD w q vN vL N L) (hq : G q) (hlt : ∀ k, G k → k < w.heap.size) (g : w.grownBy w5 none) (oN : eS.Own w5 w.heap.size vN' N') (oL : eR.Own w5 w.heap.size vL' L') (ap : ∀ k, vN'.ownBlock = some k → vL'.ownBlock ≠ some k) :
    ROut q N' L' G w ((w5.setCell ⟨q, 0, none⟩ vN').setCell ⟨q, 1, none⟩ vL') := by
  have z := g.size
  have qw := hlt q hq
  have s1 := grown_set w5 ⟨q, 0, none⟩ vN'
  have s2 := grown_set (w5.setCell ⟨q, 0, none⟩ vN') ⟨q, 1, none⟩ vL'
  have nN : ∀ k, vN'.ownBlock = some k → k ≠ q := fun k hk e => by have := (oN.lt k hk).1; omega
  have nL : ∀ k, vL'.ownBlock = some k → k ≠ q := fun k hk e => by have := (oL.lt k hk).1; omega
  refine ⟨fun k => k < w5.heap.size ∧ (G k ∨ w.heap.size ≤ k), ⟨vN', vL', ⟨(set_other (by simp)).trans (set_same (g.cell h.c0 (by simp))), set_same ((set_other (by simp)).trans (g.cell h.c1 (by simp))), fun i => ?_, ((oN.low (Nat.zero_le _)).but s1 fun k hk e => nN k hk (by injection e with e; exact e.symm)).but s2 fun k hk e => nN k hk (by injection e with e; exact e.symm), ((oL.low (Nat.zero_le _)).but s1 fun k hk e => nL k hk (by injection e with e; exact e.symm)).but s2 fun k hk e => nL k hk (by injection e with e; exact e.symm), fun e => nN q e rfl, fun e => nL q e rfl, ap⟩, ⟨by omega, .inl hq⟩, fun k hk => ⟨(oN.lt k hk).2, .inr (oN.lt k hk).1⟩, fun k hk => ⟨(oL.lt k hk).2, .inr (oL.lt k hk).1⟩, fun k hk => by rw [size_set, size_set]; exact hk.1⟩, fun k hk => hk.2, ?_⟩
  · rw [World.frozen?_setCell, World.frozen?_setCell, World.frozen?_of_block (w := w) (a := ⟨q, i, none⟩) (g.block q qw (by simp))]
    exact h.fr i
  · exact ((Chg.of (F := G) g (by simp)).grown s1 fun k hk => .inl (by injection hk with hk; rw [← hk]; exact hq)).grown s2 fun k hk => .inl (by injection hk with hk; rw [← hk]; exact hq)
set_option maxRecDepth 100000 in
set_option maxHeartbeats 3200000 in
theorem rrem_yes (q : Nat) (vN vL : Value) (N : List (List UInt8)) (L : List Rw) (x : List UInt8) (hN : N.length ≤ 64) (hL : L.length ≤ 1000000000) (w : World) (h : RfD w q vN vL N L) (HS : Calls Tryz.prog 48 #[.pointer (some ⟨q, 0, none⟩), .string ⟨x.toArray⟩] w fun e w' => e = .returned (.bool true) ∧ w' = w) :
    Calls Tryz.prog 32 #[.pointer (some ⟨q, 0, none⟩), .string ⟨x.toArray⟩] w fun e w' => e = .returned (.int .i64 0) ∧ RemOut q (N.filter fun y => y != x) (L.filter fun y => y.nm != x) w w' := by
  obtain ⟨aN, cN, rfl⟩ := Elm.form h.oN
  obtain ⟨aL, cL, rfl⟩ := Elm.form h.oL
  have c0 := h.c0
  have c1 := h.c1
  have f0 := h.fr 0
  have f1 := h.fr 1
  have qw : q < w.heap.size := World.block_lt_of_cell? w _ c0
  have H : Hid (RfD w q (.slice aN N.length cN) (.slice aL L.length cL) N L) := h
  clear h
  go_enter Tryz.func32, Tryz.ntmps32
  go_wp2_with (go_at_call 48; (with_reducible refine HS.mono ?_); rintro e w1 ⟨rfl, e1⟩; have e1' := e1.symm; clear e1; subst e1')
  go_loopw [5, 6] (fun v i wr => ∃ (k : Nat) (ad : Option Addr) (n c : Nat), k ≤ N.length ∧ i = .int .i64 k ∧ v = .slice ad n c ∧ eS.Own wr w.heap.size (.slice ad n c) ((N.take k).filter fun y => y != x) ∧ w.grownBy wr none) (fun _ i _ => N.length - (intOf i).toNat)
  case atStart => exact ⟨0, none, 0, 0, by omega, rfl, rfl, Elm.nil _ _, grown_refl _ _⟩
  case round =>
    obtain ⟨k, ad, n, c, hk, rfl, rfl, hO, hg⟩ := hrel
    have c0r := hg.cell c0 (by simp)
    have hzg := hg.size
    by_cases hlt : k < N.length
    · obtain ⟨y, hy⟩ : ∃ y, N[k]? = some y := ⟨_, List.getElem?_eq_getElem hlt⟩
      obtain ⟨g, o, h1, h2, _⟩ := (H.out.grown hg).oN.idx (by omega) hy
      have h1' : ∀ W, (Instr.indexAt 27 (.slice aN N.length cN) (.int .i64 (k : Int))).run Tryz.prog W = .ok (.pointer (some ⟨g, o, none⟩)) W := h1
      have z0 : wr.cell? ⟨g, o, none⟩ = some (.string ⟨y.toArray⟩) := h2 0 _ rfl
      have HNX : Hid ((N.take (k + 1)).filter (fun y => y != x) = (N.take k).filter (fun y => y != x) ++ if (y != x) = true then [y] else []) := filter_next hy
      have hfl : ((N.take k).filter fun y => y != x).length ≤ 64 := Nat.le_trans (List.length_filter_le _ _) (by rw [List.length_take]; omega)
      by_cases e : y = x
      · subst e
        have HNX2 : Hid ((N.take (k + 1)).filter (fun z => z != y) = (N.take k).filter (fun z => z != y)) := by
          show _ = _
          rw [HNX.out]; simp
        clear hy HNX h1 h2
        go_wp2
        go_roundw
        case rel => exact ⟨k + 1, ad, n, c, by omega, by go_num, rfl, by rw [HNX2.out]; exact hO, hg⟩
        case measure => simp [intOf]; omega
      · have e1 := str_ne e
        have e2 : (y == x) = false := by simpa using e
        have HNX2 : Hid ((N.take (k + 1)).filter (fun z => z != x) = (N.take k).filter (fun z => z != x) ++ [y]) := by
          show _ = _
          rw [HNX.out, if_pos (by simpa using e)]
        generalize (N.take k).filter (fun z => z != x) = R at hO HNX2 hfl
        have ol : ∀ j, (Value.slice ad n c).ownBlock = some j → w.heap.size ≤ j := fun j hj => (hO.lt j hj).1
        have W6 : ∀ ob, eS.Own (wr.alloc ob) w.heap.size (.slice ad n c) R := fun ob => hO.grown (World.grownBy_alloc wr ob none)
        have zb : ∀ ob, w.heap.size ≤ (wr.alloc ob).heap.size := fun ob => by simp; omega
        have GA : ∀ ob, w.grownBy (wr.alloc ob) none := fun ob => grown_alloc hg ob
        clear hy HNX h1 h2 hO
        go_wp2_with (at_builtin; refine Elm.wpList_append (E := eS) rfl (.tmp 31) (.tmp 39) rfl w.heap.size (.slice ad n c) R rfl (W6 _) _ [y] rfl (rx_str _ _ _ rfl) (by simp; omega) (by show (R.length + 1) * 16 ≤ _; omega) (zb _) ?_; intro a2 n2 c2 w2 O2 G2 _)
        go_roundw
        case rel => exact ⟨k + 1, a2, n2, c2, by omega, by go_num, rfl, by rw [HNX2.out]; exact O2, grown_more (GA _) G2 (fun j hj => .inr (ol j hj))⟩
        case measure => simp [intOf]; omega
    · have e : N.take k = N := List.take_of_length_le (by omega)
      rw [e] at hO
      have HO1 : Hid (eS.Own wr w.heap.size (.slice ad n c) (N.filter fun y => y != x)) := hO
      obtain ⟨w3, hw3⟩ : ∃ w3, w3 = wr := ⟨_, rfl⟩
      have blk : ∀ j, (Value.slice ad n c).ownBlock = some j → j < w3.heap.size := fun j hj => by rw [hw3]; exact (hO.lt j hj).2
      have HG3 : Hid (w.grownBy w3 none) := by rw [hw3]; exact hg
      have HO3 : Hid (eS.Own w3 w.heap.size (.slice ad n c) (N.filter fun y => y != x)) := by rw [hw3]; exact hO
      have c1r := hg.cell c1 (by simp)
      clear e hO hg HO1
      rw [← hw3] at hzg c0r c1r ⊢
      clear hw3
      go_wp2
      clear c0r c1r
      go_loopw [7, 8] (fun v i wr => ∃ (k : Nat) (ad : Option Addr) (n c : Nat), k ≤ L.length ∧ i = .int .i64 k ∧ v = .slice ad n c ∧ eR.Own wr w3.heap.size (.slice ad n c) ((L.take k).filter fun y => y.nm != x) ∧ w3.grownBy wr none) (fun _ i _ => L.length - (intOf i).toNat)
      case atStart => exact ⟨0, none, 0, 0, by omega, rfl, rfl, Elm.nil _ _, grown_refl _ _⟩
      case round =>
        obtain ⟨k2, ad2, n2, c2, hk2, rfl, rfl, hO2, hg2⟩ := hrel
        have gg : w.grownBy wr none := grown_more HG3.out hg2 (by simp)
        have c1r := gg.cell c1 (by simp)
        have hzg2 := hg2.size
        by_cases hlt2 : k2 < L.length
        · obtain ⟨y, hy⟩ : ∃ y, L[k2]? = some y := ⟨_, List.getElem?_eq_getElem hlt2⟩
          obtain ⟨g, o, h1, z0, z1, z2⟩ := (H.out.grown gg).at_ hL hy
          have HNX : Hid ((L.take (k2 + 1)).filter (fun y => y.nm != x) = (L.take k2).filter (fun y => y.nm != x) ++ if (y.nm != x) = true then [y] else []) := filter_next hy
          have hfl : ((L.take k2).filter fun y => y.nm != x).length ≤ 1000000000 := Nat.le_trans (List.length_filter_le _ _) (by rw [List.length_take]; omega)
          by_cases e : y.nm = x
          · have HNX2 : Hid ((L.take (k2 + 1)).filter (fun z => z.nm != x) = (L.take k2).filter (fun z => z.nm != x)) := by
              show _ = _
              rw [HNX.out]; simp [e]
            rw [e] at z0
            clear hy HNX e z1 z2
            go_wp2
            go_roundw
            case rel => exact ⟨k2 + 1, ad2, n2, c2, by omega, by go_num, rfl, by rw [HNX2.out]; exact hO2, hg2⟩
            case measure => simp [intOf]; omega
          · have e1 := str_ne e
            have e2 : (y.nm == x) = false := by simpa using e
            have HNX2 : Hid ((L.take (k2 + 1)).filter (fun z => z.nm != x) = (L.take k2).filter (fun z => z.nm != x) ++ [y]) := by
              show _ = _
              rw [HNX.out, if_pos (by simpa using e)]
            generalize (L.take k2).filter (fun z => z.nm != x) = R at hO2 HNX2 hfl
            have ol : ∀ j, (Value.slice ad2 n2 c2).ownBlock = some j → w3.heap.size ≤ j := fun j hj => (hO2.lt j hj).1
            have W6 : ∀ ob, eR.Own (wr.alloc ob) w3.heap.size (.slice ad2 n2 c2) R := fun ob => hO2.grown (World.grownBy_alloc wr ob none)
            have zb : ∀ ob, w3.heap.size ≤ (wr.alloc ob).heap.size := fun ob => by simp; omega
            have GA : ∀ ob, w3.grownBy (wr.alloc ob) none := fun ob => grown_alloc hg2 ob
            clear hy HNX hO2
            go_wp2_with (at_builtin; refine Elm.wpList_append (E := eR) rfl (.tmp 60) (.tmp 68) rfl w3.heap.size (.slice ad2 n2 c2) R rfl (W6 _) _ [y] rfl (rx_rw _ _ _ rfl) (by simp; omega) (by show (R.length + 1) * 40 ≤ _; omega) (zb _) ?_; intro a4 n4 c4 w4 O4 G4 _)
            go_roundw
            case rel => exact ⟨k2 + 1, a4, n4, c4, by omega, by go_num, rfl, by rw [HNX2.out]; exact O4, grown_more (GA _) G4 (fun j hj => .inr (ol j hj))⟩
            case measure => simp [intOf]; omega
        · have e : L.take k2 = L := List.take_of_length_le (by omega)
          rw [e] at hO2
          have f0r : wr.frozen? ⟨q, 0, none⟩ = false := by rw [World.frozen?_of_block (w := w) (a := ⟨q, 0, none⟩) (gg.block q qw (by simp))]; exact f0
          have f1r : wr.frozen? ⟨q, 1, none⟩ = false := by rw [World.frozen?_of_block (w := w) (a := ⟨q, 1, none⟩) (gg.block q qw (by simp))]; exact f1
          have c0r := gg.cell c0 (by simp)
          have HF : Hid (∀ j, (Value.slice ad n c).ownBlock = some j → (Value.slice ad2 n2 c2).ownBlock ≠ some j) := fun j hj e => by
            have a1 := blk j hj
            have a2 := (hO2.lt j e).1
            omega
          have HO4 : Hid (eR.Own wr w.heap.size (.slice ad2 n2 c2) (L.filter fun y => y.nm != x)) := hO2.low HG3.out.size
          have HO5 := HO3.out.grown hg2
          clear e hO2
          go_wp2
          go_ret
          exact ⟨rfl, wr, _, _, rfl, gg, HO5, HO4.out, HF.out⟩
theorem rrem_any (q : Nat) (N : List (List UInt8)) (L : List Rw) (G : Nat → Prop) (x : List UInt8) (hN : N.length ≤ 64) (hL : L.length ≤ 1000000000) (w : World) (h : Rf w q N L G) :
    Calls Tryz.prog 32 #[.pointer (some ⟨q, 0, none⟩), .string ⟨x.toArray⟩] w fun e w' => e = .returned (.int .i64 (rhasE N x)) ∧ ROut q (if rhas N x = true then N.filter fun y => y != x else N) (if rhas N x = true then L.filter fun y => y.nm != x else L) G w w' := by
  obtain ⟨vN, vL, h1, h2, h3, h4, h5⟩ := id h
  have HS := rhas_any q vN vL N L x hN w h1
  unfold rhasE
  cases hh : rhas N x with
  | true =>
    have hh' : (N.any fun y => y == x) = true := hh
    rw [hh'] at HS
    refine (rrem_yes q vN vL N L x hN hL w h1 HS).mono ?_
    rintro e w' ⟨rfl, w5, vN', vL', rfl, g, oN, oL, ap⟩
    exact ⟨rfl, rem_rf h1 h2 h5 g oN oL ap⟩
  | false =>
    have hh' : (N.any fun y => y == x) = false := hh
    rw [hh'] at HS
    refine (rrem_no q x w HS).mono ?_
    rintro e w' ⟨rfl, rfl⟩
    exact ⟨rfl, h.outs (grown_refl _ _)⟩
end Go.Proofs.YtapdhkgeolcogaaGreatDoor
namespace Go.Proofs.YtapdhkgeolcogaaGreatDoor
open Go.RowKit Dsk
set_option linter.unusedVariables false

/-- One write behind a crash; n unsynced ones lie ahead of it. -/
def crOne (K T n : Nat) (y : Rw) : Rw := if y.sy = true then y else { nm := y.nm, b := if K < n then [] else if n = K then y.b.take T else y.b, sy := true }
def crR (K T : Nat) : Nat → List Rw → List Rw
  | _, [] => []
  | n, y :: l => crOne K T n y :: crR K T (n + if y.sy = true then 0 else 1) l
theorem crR_len (K T : Nat) : ∀ (L : List Rw) (n : Nat), (crR K T n L).length = L.length
  | [], _ => rfl
  | y :: l, n => by simp [crR, crR_len K T l]
theorem crR_append (K T : Nat) : ∀ (l : List Rw) (n : Nat) (y : Rw), crR K T n (l ++ [y]) = crR K T n l ++ [crOne K T (n + rwait l) y]
  | [], n, y => by simp [crR, rwait]
  | z :: l, n, y => by
    rw [List.cons_append, crR, crR_append K T l, crR, List.cons_append]
    have e : n + (if z.sy = true then 0 else 1) + rwait l = n + rwait (z :: l) := by
      unfold rwait
      cases h : z.sy
      · simp [h]; omega
      · simp [h]
    rw [e]
theorem crR_take {K T : Nat} {L : List Rw} {k : Nat} {y : Rw} (h : L[k]? = some y) : crR K T 0 (L.take (k + 1)) = crR K T 0 (L.take k) ++ [crOne K T (rwait (L.take k)) y] := by
  rw [List.take_add_one, h]
  have := crR_append K T (L.take k) 0 y
  rw [Nat.zero_add] at this
  exact this
theorem rx_rw2 (w : World) (o1 : Obj) (y : Rw) (ob : Obj) (hob : ob = Obj.cells #[.string ⟨y.nm.toArray⟩, .string ⟨y.b.toArray⟩, .bool y.sy] 86) : eR.Rx ((w.alloc o1).alloc ob) (.slice (some ⟨w.heap.size + 1, 0, none⟩) 1 1) [y] := by
  have := rx_rw (w.alloc o1) y ob hob
  rw [show (w.alloc o1).heap.size = w.heap.size + 1 by simp] at this
  exact this
theorem ba_take (l : List UInt8) (T : Nat) : (⟨l.toArray⟩ : ByteArray).extract 0 T = ⟨(l.take T).toArray⟩ := by
  apply ByteArray.ext
  rw [ByteArray.data_extract]
  simp
theorem rwait_le (L : List Rw) : rwait L ≤ L.length := List.length_filter_le _ _
set_option maxRecDepth 100000 in
set_option maxHeartbeats 1600000 in
theorem rcrash_walk (q : Nat) (vN vL : Value) (N : List (List UInt8)) (L : List Rw) (keep torn : Int) (hL : L.length ≤ 1000000000) (w : World) (h : RfD w q vN vL N L) :
    Calls Tryz.prog 19 #[.pointer (some ⟨q, 0, none⟩), .int .i64 keep, .int .i64 torn] w fun e w' => e = .returned (.tuple #[]) ∧ ∃ w5 vL', w' = w5.setCell ⟨q, 1, none⟩ vL' ∧ w.grownBy w5 none ∧ eR.Own w5 w.heap.size vL' (crR keep.toNat torn.toNat 0 L) := by
  obtain ⟨aL, cL, rfl⟩ := Elm.form h.oL
  have c1 := h.c1
  have f1 := h.fr 1
  have qw : q < w.heap.size := World.block_lt_of_cell? w _ c1
  have H : Hid (RfD w q vN (.slice aL L.length cL) N L) := h
  clear h
  go_enter Tryz.func19, Tryz.ntmps19
  go_step
  go_step
  go_cut [2] from 10 to 11 (fun v w' => v = .int .i64 (torn.toNat : Int) ∧ w' = w)
  case first =>
    by_cases h : torn < 0
    · have e : (torn.toNat : Int) = 0 := by omega
      go_wp2_with fail
      go_meet
      exact ⟨by rw [e], rfl⟩
    · have e : (torn.toNat : Int) = torn := by omega
      go_wp2_with fail
      go_meet
      exact ⟨by rw [e], rfl⟩
  case rest =>
    obtain ⟨rfl, e0⟩ := hcut
    have e1 := e0.symm
    clear e0
    subst e1
    generalize hT : torn.toNat = T
    have HT : Hid (torn.toNat = T) := hT
    clear hT
    go_step
    go_step
    go_cut [1] from 12 to 13 (fun v w' => v = .int .i64 (keep.toNat : Int) ∧ w' = w)
    case first =>
      by_cases h : keep < 0
      · have e : (keep.toNat : Int) = 0 := by omega
        go_wp2_with fail
        go_meet
        exact ⟨by rw [e], rfl⟩
      · have e : (keep.toNat : Int) = keep := by omega
        go_wp2_with fail
        go_meet
        exact ⟨by rw [e], rfl⟩
    case rest =>
      obtain ⟨rfl, e0⟩ := hcut
      have e1 := e0.symm
      clear e0
      subst e1
      generalize hK : keep.toNat = K
      have HK : Hid (keep.toNat = K) := hK
      clear hK
      go_wp2_with fail
      go_loopw [6, 7, 8] (fun v m i wr => ∃ (k : Nat) (ad : Option Addr) (n c : Nat), k ≤ L.length ∧ i = .int .i64 k ∧ m = .int .i64 (rwait (L.take k) : Nat) ∧ v = .slice ad n c ∧ eR.Own wr w.heap.size (.slice ad n c) (crR K T 0 (L.take k)) ∧ w.grownBy wr none) (fun _ _ i _ => L.length - (intOf i).toNat)
      case atStart => exact ⟨0, none, 0, 0, by omega, rfl, rfl, rfl, Elm.nil _ _, grown_refl _ _⟩
      case round =>
        obtain ⟨k, ad, n, c, hk, rfl, rfl, rfl, hO, hg⟩ := hrel
        have c1r := hg.cell c1 (by simp)
        have hzg := hg.size
        by_cases hlt : k < L.length
        · obtain ⟨y, hy⟩ : ∃ y, L[k]? = some y := ⟨_, List.getElem?_eq_getElem hlt⟩
          obtain ⟨g, o, h1, z0, z1, z2⟩ := (H.out.grown hg).at_ hL hy
          have HNX : Hid (crR K T 0 (L.take (k + 1)) = crR K T 0 (L.take k) ++ [crOne K T (rwait (L.take k)) y]) := crR_take hy
          have HWX : Hid (rwait (L.take (k + 1)) = rwait (L.take k) + if y.sy = true then 0 else 1) := rwait_take hy
          have hl1 : (crR K T 0 (L.take k)).length ≤ 1000000000 := by rw [crR_len, List.length_take]; omega
          have hw1 : rwait (L.take k) ≤ 1000000000 := Nat.le_trans (rwait_le _) (by rw [List.length_take]; omega)
          generalize crR K T 0 (L.take k) = R at hO HNX hl1
          generalize rwait (L.take k) = m at HNX HWX hw1 ⊢
          have ol : ∀ j, (Value.slice ad n c).ownBlock = some j → w.heap.size ≤ j := fun j hj => (hO.lt j hj).1
          have W6 : ∀ o1 o2, eR.Own ((wr.alloc o1).alloc o2) w.heap.size (.slice ad n c) R := fun o1 o2 => (hO.grown (World.grownBy_alloc wr o1 none)).grown (World.grownBy_alloc _ o2 none)
          have zb : ∀ o1 o2, w.heap.size ≤ ((wr.alloc o1).alloc o2).heap.size := fun o1 o2 => by simp; omega
          have GA : ∀ o1 o2, w.grownBy ((wr.alloc o1).alloc o2) none := fun o1 o2 => grown_alloc (grown_alloc hg o1) o2
          have ES : Hid ((#[] : Array UInt8) = ([] : List UInt8).toArray) := rfl
          obtain ⟨yn, yb, ys⟩ := y
          simp only at z0 z1 z2
          cases ys with
          | true =>
            have HNX2 : Hid (crR K T 0 (L.take (k + 1)) = R ++ [⟨yn, yb, true⟩]) := HNX.out
            have HWX2 : Hid (rwait (L.take (k + 1)) = m) := HWX.out
            clear hy HNX HWX hO
            go_wp2_with (at_builtin; refine Elm.wpList_append (E := eR) rfl (.tmp 55) (.tmp 57) rfl w.heap.size (.slice ad n c) R rfl (W6 _ _) _ [⟨yn, yb, true⟩] rfl (rx_rw2 _ _ ⟨yn, yb, true⟩ _ rfl) (by simp; omega) (by show (R.length + 1) * 40 ≤ _; omega) (zb _ _) ?_; intro a2 n2 c2 w2 O2 G2 _)
            go_roundw
            case rel => exact ⟨k + 1, a2, n2, c2, by omega, by go_num, by rw [HWX2.out]; try go_num, rfl, by rw [HNX2.out]; exact O2, grown_more (GA _ _) G2 (fun j hj => .inr (ol j hj))⟩
            case measure => simp [intOf]; omega
          | false =>
            have HWX2 : Hid (rwait (L.take (k + 1)) = m + 1) := HWX.out
            have HNX1 : Hid (crR K T 0 (L.take (k + 1)) = R ++ [⟨yn, if K < m then [] else if m = K then yb.take T else yb, true⟩]) := HNX.out
            clear hy HNX HWX hO
            by_cases q1 : K < m
            · have HNX2 : Hid (crR K T 0 (L.take (k + 1)) = R ++ [⟨yn, [], true⟩]) := by rw [HNX1.out, if_pos q1]; exact rfl
              have q2 : ((m : Int) == (K : Int)) = false := by simp; omega
              have q3 : ¬ (m : Int) = (K : Int) := by omega
              have q4 : ¬ m = K := by omega
              clear HNX1
              go_wp2_with (at_builtin; refine Elm.wpList_append (E := eR) rfl (.tmp 55) (.tmp 57) rfl w.heap.size (.slice ad n c) R rfl (W6 _ _) _ [⟨yn, [], true⟩] rfl (rx_rw2 _ _ ⟨yn, [], true⟩ _ rfl) (by simp; omega) (by show (R.length + 1) * 40 ≤ _; omega) (zb _ _) ?_; intro a2 n2 c2 w2 O2 G2 _)
              go_roundw
              case rel => exact ⟨k + 1, a2, n2, c2, by omega, by go_num, by rw [HWX2.out]; try go_num, rfl, by rw [HNX2.out]; exact O2, grown_more (GA _ _) G2 (fun j hj => .inr (ol j hj))⟩
              case measure => simp [intOf]; omega
            · by_cases q4 : m = K
              · have HK2 : Hid (keep.toNat = m) := HK.out.trans q4.symm
                clear HK
                subst q4
                by_cases q5 : T < yb.length
                · have HNX2 : Hid (crR m T 0 (L.take (k + 1)) = R ++ [⟨yn, yb.take T, true⟩]) := by rw [HNX1.out, if_neg q1, if_pos rfl]; exact rfl
                  clear HNX1
                  have EX : Hid ((⟨yb.toArray⟩ : ByteArray).extract 0 T = ⟨(yb.take T).toArray⟩) := ba_take yb T
                  go_wp2_with (at_builtin; refine Elm.wpList_append (E := eR) rfl (.tmp 55) (.tmp 57) rfl w.heap.size (.slice ad n c) R rfl (W6 _ _) _ [⟨yn, yb.take T, true⟩] rfl (rx_rw2 _ _ ⟨yn, yb.take T, true⟩ _ (by rw [EX.out])) (by simp; omega) (by show (R.length + 1) * 40 ≤ _; omega) (zb _ _) ?_; intro a2 n2 c2 w2 O2 G2 _)
                  go_roundw
                  case rel => exact ⟨k + 1, a2, n2, c2, by omega, by go_num, by rw [HWX2.out]; try go_num, rfl, by rw [HNX2.out]; exact O2, grown_more (GA _ _) G2 (fun j hj => .inr (ol j hj))⟩
                  case measure => simp [intOf]; omega
                · have HNX2 : Hid (crR m T 0 (L.take (k + 1)) = R ++ [⟨yn, yb, true⟩]) := by rw [HNX1.out, if_neg q1, if_pos rfl, List.take_of_length_le (by omega)]; exact rfl
                  clear HNX1
                  go_wp2_with (at_builtin; refine Elm.wpList_append (E := eR) rfl (.tmp 55) (.tmp 57) rfl w.heap.size (.slice ad n c) R rfl (W6 _ _) _ [⟨yn, yb, true⟩] rfl (rx_rw2 _ _ ⟨yn, yb, true⟩ _ rfl) (by simp; omega) (by show (R.length + 1) * 40 ≤ _; omega) (zb _ _) ?_; intro a2 n2 c2 w2 O2 G2 _)
                  go_roundw
                  case rel => exact ⟨k + 1, a2, n2, c2, by omega, by go_num, by rw [HWX2.out]; try go_num, rfl, by rw [HNX2.out]; exact O2, grown_more (GA _ _) G2 (fun j hj => .inr (ol j hj))⟩
                  case measure => simp [intOf]; omega
              · have HNX2 : Hid (crR K T 0 (L.take (k + 1)) = R ++ [⟨yn, yb, true⟩]) := by rw [HNX1.out, if_neg q1, if_neg q4]; exact rfl
                have q2 : ((m : Int) == (K : Int)) = false := by simp; omega
                have q3 : ¬ (m : Int) = (K : Int) := by omega
                clear HNX1
                go_wp2_with (at_builtin; refine Elm.wpList_append (E := eR) rfl (.tmp 55) (.tmp 57) rfl w.heap.size (.slice ad n c) R rfl (W6 _ _) _ [⟨yn, yb, true⟩] rfl (rx_rw2 _ _ ⟨yn, yb, true⟩ _ rfl) (by simp; omega) (by show (R.length + 1) * 40 ≤ _; omega) (zb _ _) ?_; intro a2 n2 c2 w2 O2 G2 _)
                go_roundw
                case rel => exact ⟨k + 1, a2, n2, c2, by omega, by go_num, by rw [HWX2.out]; try go_num, rfl, by rw [HNX2.out]; exact O2, grown_more (GA _ _) G2 (fun j hj => .inr (ol j hj))⟩
                case measure => simp [intOf]; omega
        · have e : L.take k = L := List.take_of_length_le (by omega)
          rw [e] at hO
          have f1r : wr.frozen? ⟨q, 1, none⟩ = false := by rw [World.frozen?_of_block (w := w) (a := ⟨q, 1, none⟩) (hg.block q qw (by simp))]; exact f1
          clear e
          go_wp2
          go_end0
          exact ⟨rfl, wr, _, rfl, hg, by rw [HT.out, HK.out]; exact hO⟩
theorem rset_rf {q : Nat} {vN vL vL' : Value} {N : List (List UInt8)} {L L' : List Rw} {G : Nat → Prop} {w w5 : World} (h : RfD w q vN vL N L) (hq : G q) (hN : ∀ k, vN.ownBlock = some k → G k) (hlt : ∀ k, G k → k < w.heap.size) (g : w.grownBy w5 none) (oL : eR.Own w5 w.heap.size vL' L') :
    ROut q N L' G w (w5.setCell ⟨q, 1, none⟩ vL') := by
  have z := g.size
  have qw := hlt q hq
  have s2 := grown_set w5 ⟨q, 1, none⟩ vL'
  have nL : ∀ k, vL'.ownBlock = some k → k ≠ q := fun k hk e => by have := (oL.lt k hk).1; omega
  refine ⟨fun k => k < w5.heap.size ∧ (G k ∨ w.heap.size ≤ k), ⟨vN, vL', ⟨(set_other (by simp)).trans (g.cell h.c0 (by simp)), set_same (g.cell h.c1 (by simp)), fun i => ?_, (h.oN.grown g).but s2 fun k hk e => h.nN (by injection e with e; have e2 : q = k := e; rw [e2]; exact hk), (oL.low (Nat.zero_le _)).but s2 fun k hk e => nL k hk (by injection e with e; exact e.symm), h.nN, fun e => nL q e rfl, fun k hk e => by have := hlt k (hN k hk); have := (oL.lt k e).1; omega⟩, ⟨by omega, .inl hq⟩, fun k hk => ⟨by have := hlt k (hN k hk); omega, .inl (hN k hk)⟩, fun k hk => ⟨(oL.lt k hk).2, .inr (oL.lt k hk).1⟩, fun k hk => by rw [size_set]; exact hk.1⟩, fun k hk => hk.2, ?_⟩
  · rw [World.frozen?_setCell, World.frozen?_of_block (w := w) (a := ⟨q, i, none⟩) (g.block q qw (by simp))]
    exact h.fr i
  · exact (Chg.of (F := G) g (by simp)).grown s2 fun k hk => .inl (by injection hk with hk; rw [← hk]; exact hq)
theorem rcrash_any (q : Nat) (N : List (List UInt8)) (L : List Rw) (G : Nat → Prop) (keep torn : Int) (hL : L.length ≤ 1000000000) (w : World) (h : Rf w q N L G) :
    Calls Tryz.prog 19 #[.pointer (some ⟨q, 0, none⟩), .int .i64 keep, .int .i64 torn] w fun e w' => e = .returned (.tuple #[]) ∧ ROut q N (crR keep.toNat torn.toNat 0 L) G w w' := by
  obtain ⟨vN, vL, h1, h2, h3, h4, h5⟩ := id h
  refine (rcrash_walk q vN vL N L keep torn hL w h1).mono ?_
  rintro e w' ⟨rfl, w5, vL', rfl, g, oL⟩
  exact ⟨rfl, rset_rf h1 h2 h3 h5 g oL⟩
end Go.Proofs.YtapdhkgeolcogaaGreatDoor
