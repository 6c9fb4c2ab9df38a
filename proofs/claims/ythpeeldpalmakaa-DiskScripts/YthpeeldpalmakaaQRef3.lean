/- The reference's Sync, Read, Remove. -/
import Derived.Test.YthpeeldpalmakaaQRef2
import Derived.Lib.AppendStr
namespace Go.Proofs.Ythpeeldpalmakaa
open Go.RowKit Dsk
set_option linter.unusedVariables false

def rhas (N : List (List UInt8)) (x : List UInt8) : Bool := N.any fun y => y == x
def rhasE (N : List (List UInt8)) (x : List UInt8) : Int := if rhas N x = true then 0 else 80
/-- What a call on the reference's disk leaves. -/
def ROut (q : Nat) (N : List (List UInt8)) (L : List Rw) (G : Nat → Prop) (w w' : World) : Prop := ∃ G', Rf w' q N L G' ∧ (∀ k, G' k → G k ∨ w.heap.size ≤ k) ∧ Chg G w w'
theorem Rf.outs {q : Nat} {N : List (List UInt8)} {L : List Rw} {G : Nat → Prop} {w w' : World} (h : Rf w q N L G) (g : w.grownBy w' none) : ROut q N L G w w' := ⟨G, h.grown g, fun k hk => .inl hk, Chg.of g (by simp)⟩
set_option maxRecDepth 100000 in
set_option maxHeartbeats 1600000 in
theorem rsync_no (q : Nat) (x : List UInt8) (w : World) (HS : Calls Try.prog 25 #[.pointer (some ⟨q, 0, none⟩), .string ⟨x.toArray⟩] w fun e w' => e = .returned (.bool false) ∧ w' = w) :
    Calls Try.prog 11 #[.pointer (some ⟨q, 0, none⟩), .string ⟨x.toArray⟩] w fun e w' => e = .returned (.int .i64 80) ∧ w' = w := by
  go_enter Try.func11, Try.ntmps11
  go_wp2_with (go_at_call 25; (with_reducible refine HS.mono ?_); rintro e w1 ⟨rfl, rfl⟩)
  go_ret
  exact ⟨rfl, rfl⟩
set_option maxRecDepth 100000 in
set_option maxHeartbeats 1600000 in
theorem rsync_yes (q : Nat) (vN vL : Value) (N : List (List UInt8)) (L : List Rw) (x : List UInt8) (hL : L.length ≤ 1000000) (w : World) (h : RfD w q vN vL N L) (HS : Calls Try.prog 25 #[.pointer (some ⟨q, 0, none⟩), .string ⟨x.toArray⟩] w fun e w' => e = .returned (.bool true) ∧ w' = w) :
    Calls Try.prog 11 #[.pointer (some ⟨q, 0, none⟩), .string ⟨x.toArray⟩] w fun e w' => e = .returned (.int .i64 0) ∧ eR.Own w' 0 vL (syncR L x) ∧ Chg (fun k => vL.ownBlock = some k) w w' := by
  obtain ⟨aL, cL, rfl⟩ := Elm.form h.oL
  have c1 := h.c1
  have nq : ¬ (Value.slice aL L.length cL).ownBlock = some q := h.nL
  have O0 : Hid (eR.Own w 0 (.slice aL L.length cL) (syncK L x 0)) := by rw [syncK_zero]; exact h.oL
  clear h
  go_enter Try.func11, Try.ntmps11
  go_wp2_with (go_at_call 25; (with_reducible refine HS.mono ?_); rintro e w1 ⟨rfl, e1⟩; have e1' := e1.symm; clear e1; subst e1')
  go_loopw [5] (fun i wr => ∃ k : Nat, k ≤ L.length ∧ i = .int .i64 k ∧ eR.Own wr 0 (.slice aL L.length cL) (syncK L x k) ∧ Chg (fun k => (Value.slice aL L.length cL).ownBlock = some k) w wr) (fun i _ => L.length - (intOf i).toNat)
  case atStart => exact ⟨0, by omega, rfl, O0.out, Chg.refl _ _⟩
  case round =>
    obtain ⟨k, hk, rfl, hO, hC⟩ := hrel
    have c1r := hC.cell c1 nq
    by_cases hlt : k < L.length
    · obtain ⟨y, hy⟩ : ∃ y, L[k]? = some y := ⟨_, List.getElem?_eq_getElem hlt⟩
      obtain ⟨g, o, h1, z0, z2, zf, zo, hO2⟩ := own_mark hO (by rw [syncK_len]; omega) (syncK_at x hy)
      have HNX : Hid (syncK L x (k + 1) = (syncK L x k).set k (if y.nm = x then { y with sy := true } else y)) := syncK_next x hy
      have HSA : Hid ((syncK L x k)[k]? = some y) := syncK_at x hy
      by_cases e : y.nm = x
      · have HO2 : Hid (eR.Own (wr.setCell ⟨g, o + 2, none⟩ (.bool true)) 0 (.slice aL L.length cL) (syncK L x (k + 1))) := by rw [HNX.out, if_pos e]; exact hO2
        have HC2 : Hid (Chg (fun k => (Value.slice aL L.length cL).ownBlock = some k) w (wr.setCell ⟨g, o + 2, none⟩ (.bool true))) := hC.grown (grown_set _ _ _) fun j hj => .inl (by injection hj with hj; rw [← hj]; exact zo)
        rw [e] at z0
        clear hO hO2 hy e c1 HNX HSA hC
        go_wp2
        go_roundw
        case rel => exact ⟨k + 1, by omega, by go_num, HO2.out, HC2.out⟩
        case measure => simp [intOf]; omega
      · have e1 := str_ne e
        have e2 : (y.nm == x) = false := by simpa using e
        have HO2 : Hid (eR.Own wr 0 (.slice aL L.length cL) (syncK L x (k + 1))) := by
          rw [HNX.out, if_neg e]
          have : (syncK L x k).set k y = syncK L x k := by
            obtain ⟨a1, a2⟩ := List.getElem?_eq_some_iff.1 HSA.out
            rw [← a2]
            exact List.set_getElem_self a1
          rw [this]
          exact hO
        clear hO hO2 hy c1 HNX HSA
        go_wp2
        go_roundw
        case rel => exact ⟨k + 1, by omega, by go_num, HO2.out, hC⟩
        case measure => simp [intOf]; omega
    · have e : syncK L x k = syncR L x := by rw [show k = L.length by omega]; exact syncK_all L x
      rw [e] at hO
      clear e
      go_wp2
      go_ret
      exact ⟨rfl, hO, hC⟩
theorem rsync_any (q : Nat) (N : List (List UInt8)) (L : List Rw) (G : Nat → Prop) (x : List UInt8) (hN : N.length ≤ 64) (hL : L.length ≤ 1000000) (w : World) (h : Rf w q N L G) :
    Calls Try.prog 11 #[.pointer (some ⟨q, 0, none⟩), .string ⟨x.toArray⟩] w fun e w' => e = .returned (.int .i64 (rhasE N x)) ∧ ROut q N (if rhas N x = true then syncR L x else L) G w w' := by
  obtain ⟨vN, vL, h1, h2, h3, h4, h5⟩ := id h
  have HS := rhas_any q vN vL N L x hN w h1
  unfold rhasE
  cases hh : rhas N x with
  | true =>
    have hh' : (N.any fun y => y == x) = true := hh
    rw [hh'] at HS
    refine (rsync_yes q vN vL N L x hL w h1 HS).mono ?_
    rintro e w' ⟨rfl, o, C⟩
    refine ⟨rfl, G, ⟨vN, vL, ⟨C.cell h1.c0 h1.nL, C.cell h1.c1 h1.nL, fun i => (C.frozen (a := ⟨q, i, none⟩) (show q < w.heap.size from h5 q h2) h1.nL).trans (h1.fr i), h1.oN.kept C (fun k hk e => h1.ap k hk e), o, h1.nN, h1.nL, h1.ap⟩, h2, h3, h4, fun k hk => Nat.lt_of_lt_of_le (h5 k hk) C.size⟩, fun k hk => .inl hk, C.wide fun k hk => h4 k hk⟩
  | false =>
    have hh' : (N.any fun y => y == x) = false := hh
    rw [hh'] at HS
    refine (rsync_no q x w HS).mono ?_
    rintro e w' ⟨rfl, rfl⟩
    exact ⟨rfl, h.outs (grown_refl _ _)⟩
theorem map_flat (l : List UInt8) : (l.map fun b => Value.int IntKind.u8 (b.toNat : Int)) = l.flatMap fun x => [Value.int IntKind.u8 (x.toNat : Int)] := by
  induction l with
  | nil => rfl
  | cons a l ih => simp [ih]
theorem str_cells (l : List UInt8) : Go.Lib.strCells ⟨l.toArray⟩ = eB.cells l := by
  unfold Go.Lib.strCells Elm.cells
  simp [eB]
  exact map_flat l
/-- 'append(v, s...)', s a string. -/
theorem wpList_append_str {w : World} {ops : Array Oper} {rest : List Oper} {o : Oper} {a : Act} {Q : Exit → Act → World → Prop} (hgd : o.guard = none) (s x : Operand)
    (ho : o.op = .call { callee := .builtin .append, args := #[s, x], argTypes := #[31, 9] })
    (base : Nat) (v : Value) (l0 : List UInt8) (hs : a.eval s = v) (hown : eB.Own w base v l0) (l : List UInt8) (hx : a.eval x = .string ⟨l.toArray⟩)
    (hb : l0.length + l.length ≤ 140737488351232) (hbase : base ≤ w.heap.size)
    (h : ∀ ad n c w', eB.Own w' base (.slice ad n c) (l0 ++ l) → w.grownBy w' v.ownBlock → wpList Try.prog ops Q rest (a.put o.dst (.slice ad n c)) w') : wpList Try.prog ops Q (o :: rest) a w := by
  refine wpList_plain hgd fun K hK => ?_
  obtain ⟨i, hi, hz0, hz1, hz2⟩ := info_parts eB.hi
  have hsz : (⟨l.toArray⟩ : ByteArray).size = l.length := by simp [ByteArray.size]
  obtain ⟨v', w', hr, h2, h3, h4⟩ := Go.Lib.run_append_own_string (P := Try.prog) w base 31 9 o.type 5 i Try.underlying31 Try.underlying9 hi hz0 hz1 hz2 v l0.length (eB.cells l0) hown ⟨l.toArray⟩ (by rw [hsz]; unfold maxLen; omega) (by rw [hsz]; omega) hbase
  unfold Oper.wp execOp
  simp only [ho, resolve, invoke, builtin, Sem.run_bind, Sem.run_pure, Result.andThen_ok, List.map_toArray, List.map_cons, List.map_nil, hs, hx, hr]
  have hO : eB.Own w' base v' (l0 ++ l) := by
    unfold Elm.Own
    rw [Elm.cells_append, List.length_append]
    rw [hsz] at h2
    rw [str_cells] at h2
    exact h2
  obtain ⟨ad, c, rfl⟩ := Elm.form hO
  exact hK _ _ (h ad _ c w' hO h3)
def rB (L : List Rw) (x : List UInt8) : List UInt8 := (L.filter fun y => y.nm == x).flatMap fun y => y.b
theorem rB_take {L : List Rw} {k : Nat} {y : Rw} (x : List UInt8) (h : L[k]? = some y) : rB (L.take (k + 1)) x = if y.nm = x then rB (L.take k) x ++ y.b else rB (L.take k) x := by
  unfold rB
  rw [List.take_add_one, h, List.filter_append]
  by_cases e : y.nm = x
  · simp [e]
  · simp [e]
theorem rB_le (L : List Rw) (x : List UInt8) : (rB L x).length ≤ rtot L := by
  unfold rB rtot
  induction L with
  | nil => simp
  | cons y L ih =>
    by_cases e : y.nm = x
    · simp [e] at ih ⊢; omega
    · simp [e] at ih ⊢; omega
set_option maxRecDepth 100000 in
set_option maxHeartbeats 1600000 in
theorem rread_no (q : Nat) (x : List UInt8) (w : World) (HS : Calls Try.prog 25 #[.pointer (some ⟨q, 0, none⟩), .string ⟨x.toArray⟩] w fun e w' => e = .returned (.bool false) ∧ w' = w) :
    Calls Try.prog 16 #[.pointer (some ⟨q, 0, none⟩), .string ⟨x.toArray⟩] w fun e w' => e = .returned (.tuple #[.slice none 0 0, .int .i64 80]) ∧ w' = w := by
  go_enter Try.func16, Try.ntmps16
  go_wp2_with (go_at_call 25; (with_reducible refine HS.mono ?_); rintro e w1 ⟨rfl, rfl⟩)
  go_ret2
  exact ⟨rfl, rfl⟩
set_option maxRecDepth 100000 in
set_option maxHeartbeats 1600000 in
theorem rread_yes (q : Nat) (vN vL : Value) (N : List (List UInt8)) (L : List Rw) (x : List UInt8) (hL : L.length ≤ 1000000) (ht : rtot L ≤ 1048576) (w : World) (h : RfD w q vN vL N L) (HS : Calls Try.prog 25 #[.pointer (some ⟨q, 0, none⟩), .string ⟨x.toArray⟩] w fun e w' => e = .returned (.bool true) ∧ w' = w) :
    Calls Try.prog 16 #[.pointer (some ⟨q, 0, none⟩), .string ⟨x.toArray⟩] w fun e w' => ∃ ad n c, e = .returned (.tuple #[.slice ad n c, .int .i64 0]) ∧ eB.Own w' w.heap.size (.slice ad n c) (rB L x) ∧ w.grownBy w' none := by
  obtain ⟨aL, cL, rfl⟩ := Elm.form h.oL
  have c1 := h.c1
  have H : Hid (RfD w q vN (.slice aL L.length cL) N L) := h
  have HTL : Hid (∀ k, (rB (L.take k) x).length ≤ 1048576) := fun k => Nat.le_trans (rB_le _ _) (Nat.le_trans (rtot_le L k) ht)
  clear h
  go_enter Try.func16, Try.ntmps16
  go_wp2_with (go_at_call 25; (with_reducible refine HS.mono ?_); rintro e w1 ⟨rfl, e1⟩; have e1' := e1.symm; clear e1; subst e1')
  go_loopw [6, 7] (fun v i wr => ∃ (k : Nat) (ad : Option Addr) (n c : Nat), k ≤ L.length ∧ i = .int .i64 k ∧ v = .slice ad n c ∧ eB.Own wr w.heap.size (.slice ad n c) (rB (L.take k) x) ∧ w.grownBy wr none) (fun _ i _ => L.length - (intOf i).toNat)
  case atStart => exact ⟨0, none, 0, 0, by omega, rfl, rfl, Elm.nil _ _, grown_refl _ _⟩
  case round =>
    obtain ⟨k, ad, n, c, hk, rfl, rfl, hO, hg⟩ := hrel
    have c1r := hg.cell c1 (by simp)
    have hzg := hg.size
    by_cases hlt : k < L.length
    · obtain ⟨y, hy⟩ : ∃ y, L[k]? = some y := ⟨_, List.getElem?_eq_getElem hlt⟩
      obtain ⟨g, o, h1, z0, z1, z2⟩ := (H.out.grown hg).at_ hL hy
      have HNX : Hid (rB (L.take (k + 1)) x = if y.nm = x then rB (L.take k) x ++ y.b else rB (L.take k) x) := rB_take x hy
      have b1 := HTL.out (k + 1)
      by_cases e : y.nm = x
      · rw [HNX.out, if_pos e, List.length_append] at b1
        have HNX2 : Hid (rB (L.take (k + 1)) x = rB (L.take k) x ++ y.b) := by rw [HNX.out, if_pos e]; exact rfl
        rw [e] at z0
        generalize rB (L.take k) x = R at hO HNX2 b1
        have ol : ∀ j, (Value.slice ad n c).ownBlock = some j → w.heap.size ≤ j := fun j hj => (hO.lt j hj).1
        clear hy e HNX z2
        go_wp2_with (at_builtin; refine wpList_append_str rfl (.tmp 31) (.tmp 39) rfl w.heap.size (.slice ad n c) R rfl hO y.b rfl (by omega) hzg ?_; intro a2 n2 c2 w2 O2 G2)
        go_roundw
        case rel => exact ⟨k + 1, a2, n2, c2, by omega, by go_num, rfl, by rw [HNX2.out]; exact O2, grown_more hg G2 (fun j hj => .inr (ol j hj))⟩
        case measure => simp [intOf]; omega
      · have e1 := str_ne e
        have e2 : (y.nm == x) = false := by simpa using e
        have HNX2 : Hid (rB (L.take (k + 1)) x = rB (L.take k) x) := by rw [HNX.out, if_neg e]; exact rfl
        clear hy HNX b1
        go_wp2
        go_roundw
        case rel => exact ⟨k + 1, ad, n, c, by omega, by go_num, rfl, by rw [HNX2.out]; exact hO, hg⟩
        case measure => simp [intOf]; omega
    · have e : L.take k = L := List.take_of_length_le (by omega)
      rw [e] at hO
      clear e HTL
      go_wp2
      go_ret2
      exact ⟨ad, n, c, rfl, hO, hg⟩
theorem rread_any (q : Nat) (N : List (List UInt8)) (L : List Rw) (G : Nat → Prop) (x : List UInt8) (hN : N.length ≤ 64) (hL : L.length ≤ 1000000) (ht : rtot L ≤ 1048576) (w : World) (h : Rf w q N L G) :
    Calls Try.prog 16 #[.pointer (some ⟨q, 0, none⟩), .string ⟨x.toArray⟩] w fun e w' => ∃ ad n c, e = .returned (.tuple #[.slice ad n c, .int .i64 (rhasE N x)]) ∧ eB.Own w' w.heap.size (.slice ad n c) (if rhas N x = true then rB L x else []) ∧ w.grownBy w' none := by
  obtain ⟨vN, vL, h1, h2, h3, h4, h5⟩ := id h
  have HS := rhas_any q vN vL N L x hN w h1
  unfold rhasE
  cases hh : rhas N x with
  | true =>
    have hh' : (N.any fun y => y == x) = true := hh
    rw [hh'] at HS
    exact rread_yes q vN vL N L x hL ht w h1 HS
  | false =>
    have hh' : (N.any fun y => y == x) = false := hh
    rw [hh'] at HS
    refine (rread_no q x w HS).mono ?_
    rintro e w' ⟨rfl, rfl⟩
    exact ⟨none, 0, 0, rfl, Elm.nil _ _, grown_refl _ _⟩
end Go.Proofs.Ythpeeldpalmakaa
