/- 'WalKeeps', walked. -/
import Derived.Test.YtapdhkgeolcogaaGreatDoorGw
namespace Go.Proofs.YtapdhkgeolcogaaGreatDoor
open Go.RowKit Dsk Lg
set_option linter.unusedVariables false

/-- A log, and beside it the list of its records as the caller keeps it. -/
structure Kpt (w wr : World) (b wb : Nat) (s : St) (F : Nat → Prop) (n cnt : Nat) (m1 m2 : List By) (va : Value) : Prop where
  wl : Wl w wr b wb s F (nm n) (n : Int) (cnt : Int)
  lo : Lo s n m1 m2 1
  ro : Ro wr w.heap.size va (m1 ++ m2) (fun k => k < w.heap.size)
  ap : ∀ j, va.ownBlock = some j → ¬ F j ∧ j ≠ wb
section
variable {w wr w' : World} {b wb : Nat} {s s' : St} {F F' : Nat → Prop} {n cnt n' cnt' : Nat} {m1 m2 m1' m2' : List By} {va : Value}
/-- Behind a call that turns the log alone. -/
theorem Kpt.turn (h : Kpt w wr b wb s F n cnt m1 m2 va) (hw : Wl w w' b wb s' F' (nm n') (n' : Int) (cnt' : Int)) (hl : Lo s' n' m1' m2' 1) (hm : m1' ++ m2' = m1 ++ m2) (g : Chg (fun j => F j ∨ j = wb) wr w') (hF : ∀ j, F' j → F j ∨ wr.heap.size ≤ j) : Kpt w w' b wb s' F' n' cnt' m1' m2' va := by
  refine ⟨hw, hl, ?_, fun j hj => ⟨fun e => ?_, (h.ap j hj).2⟩⟩
  · rw [hm]
    refine h.ro.kept g (fun j hj e => ?_) fun j hj e => ?_
    · have := h.ap j hj
      rcases e with e | e
      · exact this.1 e
      · exact this.2 e
    · rcases e with e | e
      · have := h.wl.lo j e; omega
      · have := h.wl.wlo; omega
  · rcases hF j e with e | e
    · exact (h.ap j hj).1 e
    · have := (h.ro.lt j hj).2; omega
theorem Kpt.row (h : Kpt w wr b wb s F n cnt m1 m2 va) (g : Chg (fun j => F j ∨ j = wb) wr w') : Ro w' w.heap.size va (m1 ++ m2) (fun k => k < w.heap.size) := by
  refine h.ro.kept g (fun j hj e => ?_) fun j hj e => ?_
  · have := h.ap j hj
    rcases e with e | e
    · exact this.1 e
    · exact this.2 e
  · rcases e with e | e
    · have := h.wl.lo j e; omega
    · have := h.wl.wlo; omega
theorem Kpt.grown (h : Kpt w wr b wb s F n cnt m1 m2 va) (g : wr.grownBy w' none) : Kpt w w' b wb s F n cnt m1 m2 va :=
  h.turn (h.wl.grown g) h.lo rfl (Chg.of g (by simp)) fun j hj => .inl hj
end
/-- A record appended, where it is taken; where it isn't. -/
theorem lo_append_ok {W w : World} {b wb : Nat} {s : St} {F : Nat → Prop} {k : Nat} {n : Int} {cnt : Nat} {m1 m2 : List By} {c : Nat} (h : Wl W w b wb s F (nm k) n (cnt : Int)) (hL : Lo s k m1 m2 c) (v : Value) (l : By) (hX : eB.Rx w v l) (hl : l.length ≤ rch) (hc : cnt ≤ 100000000) (hm : s.m ≤ 800000000) (hE : putE s (nm k) l = 0) :
    Calls Tryz.prog 12 #[.pointer (some ⟨wb, 0, none⟩), v] w fun e w' => e = .returned (.int .i64 0) ∧ ∃ F', Wl W w' b wb (putS s (nm k) l) F' (nm k) n ((cnt + 1 : Nat) : Int) ∧ Chg (fun j => F j ∨ j = wb) w w' ∧ (∀ j, F' j → F j ∨ w.heap.size ≤ j) := by
  have hk := hL.n2
  have hnl := nm_len (n := k) (by omega)
  have hr : l.length ≤ 9223372036854775807 := by unfold rch at hl; omega
  refine (wappend_any h (by omega) v l hX hr (by omega) (by omega)).mono ?_
  rintro e w' ⟨rfl, F', h1, h2, h3⟩
  rw [if_pos hE] at h1
  rw [hE]
  exact ⟨rfl, F', h1, h3, h2⟩
theorem lo_append_no {W w : World} {b wb : Nat} {s : St} {F : Nat → Prop} {k : Nat} {n : Int} {cnt : Nat} {m1 m2 : List By} {c : Nat} (h : Wl W w b wb s F (nm k) n (cnt : Int)) (hL : Lo s k m1 m2 c) (v : Value) (l : By) (hX : eB.Rx w v l) (hl : l.length ≤ rch) (hc : cnt ≤ 100000000) (hm : s.m ≤ 800000000) (hE : ¬ putE s (nm k) l = 0) :
    Calls Tryz.prog 12 #[.pointer (some ⟨wb, 0, none⟩), v] w fun e w' => ∃ E : Int, (E == 0) = false ∧ e = .returned (.int .i64 E) ∧ ∃ F', Wl W w' b wb s F' (nm k) n (cnt : Int) ∧ Chg (fun j => F j ∨ j = wb) w w' ∧ (∀ j, F' j → F j ∨ w.heap.size ≤ j) := by
  have hk := hL.n2
  have hnl := nm_len (n := k) (by omega)
  have hr : l.length ≤ 9223372036854775807 := by unfold rch at hl; omega
  refine (wappend_any h (by omega) v l hX hr (by omega) (by omega)).mono ?_
  rintro e w' ⟨rfl, F', h1, h2, h3⟩
  rw [if_neg hE, putS_bad hE] at h1
  exact ⟨_, by simpa using hE, rfl, F', h1, h3, h2⟩
/-- A record more in the caller's list. -/
theorem Kpt.push {w wr w5 : World} {b wb : Nat} {s : St} {F : Nat → Prop} {n cnt : Nat} {m1 m2 : List By} {l : By} {ad ad' : Option Addr} {x c x' c' : Nat} {vs : List S3} {p : S3}
    (hw : Wl w wr b wb s F (nm n) (n : Int) (cnt : Int)) (hl : Lo s n m1 (m2 ++ [l]) 1) (he : Each wr vs (m1 ++ m2) (fun k => k < w.heap.size)) (hp : eB.Rx wr (sv p) l) (hpk : l ≠ [] → ∀ k, (sv p).ownBlock = some k → k < w.heap.size)
    (ho : eL.Own w5 w.heap.size (.slice ad' x' c') (vs ++ [p])) (g : wr.grownBy w5 (Value.slice ad x c).ownBlock) (hap : ∀ j, (Value.slice ad x c).ownBlock = some j → ¬ F j ∧ j ≠ wb ∧ w.heap.size ≤ j ∧ j < wr.heap.size) (hb : (Value.slice ad' x' c').ownBlock = (Value.slice ad x c).ownBlock ∨ ∃ q, (Value.slice ad' x' c').ownBlock = some q ∧ wr.heap.size ≤ q) : Kpt w w5 b wb s F n cnt m1 (m2 ++ [l]) (.slice ad' x' c') := by
  have C : Chg (fun j => (Value.slice ad x c).ownBlock = some j) wr w5 := Chg.of g fun k hk => hk
  refine ⟨hw.apart C fun j hj => ⟨(hap j hj).1, (hap j hj).2.1, (hap j hj).2.2.1⟩, hl, ⟨_, ho, ?_⟩, fun j hj => ?_⟩
  · rw [← List.append_assoc]
    refine Each.snoc (he.kept C fun k hk e => by have := (hap k e).2.2.1; omega) (hp.kept' C fun h0 k hk e => by have := (hap k e).2.2.1; have := hpk h0 k hk; omega) hpk
  · rcases hb with e | ⟨q, e, hq⟩
    · rw [e] at hj
      exact ⟨(hap j hj).1, (hap j hj).2.1⟩
    · rw [e] at hj
      injection hj with hj
      subst hj
      exact ⟨fun e => by have := hw.dk.lt _ e; omega, fun e => by have := hw.lt; omega⟩
/-- A new list beside a log that was just laid anew. -/
theorem Kpt.fresh {w w4 w5 : World} {b wb : Nat} {s : St} {F : Nat → Prop} {n cnt : Nat} {m1 : List By} {va : Value} {us : List S3} (hw : Wl w w4 b wb s F (nm n) (n : Int) (cnt : Int)) (hl : Lo s n m1 [] 1) (he : Each w4 us m1 (fun k => k < w.heap.size)) (ho : eL.Own w5 w.heap.size va us) (g : w4.grownBy w5 none) (hb : ∀ j, va.ownBlock = some j → w4.heap.size ≤ j) : Kpt w w5 b wb s F n cnt m1 [] va :=
  ⟨hw.grown g, hl, ⟨us, ho, by rw [List.append_nil]; exact he.grown g⟩, fun j hj => ⟨fun e => by have := hw.dk.lt j e; have := hb j hj; omega, fun e => by have := hw.lt; have := hb j hj; omega⟩⟩
set_option maxRecDepth 100000 in
set_option maxHeartbeats 12800000 in
theorem walKeeps.walk (w : World) (G : Gv w) (v0 : Value) (h0 : ∃ os, Sc w v0 os) (keep : Int) (hk : (Lit.int .i64 keep).wf = true) (torn : Int) (ht : (Lit.int .i64 torn).wf = true) :
    Calls Tryz.prog 4 #[v0, .int .i64 keep, .int .i64 torn] w fun e w' => e = .returned (.bool true) ∧ Below w.heap.size w w' := by
  obtain ⟨os, a0, c0, rfl, hol, hos⟩ := h0
  have hkb := (i64_of hk).2
  have AW := awake_any w G
  have NW : ∀ {w1}, Below w.heap.size w w1 → Calls Tryz.prog 9 #[] w1 fun e w' => ∃ b F, e = .returned (.pointer (some ⟨b, 0, none⟩)) ∧ Dk w' b newS F ∧ (∀ k, F k → w.heap.size ≤ k) ∧ Below w.heap.size w w' := fun {w1} g =>
    (new_ok w1).mono fun e w' ⟨b, F, h1, h2, h3, h4⟩ => ⟨b, F, h1, h2, fun k hk => Nat.le_trans g.size (h3 k hk), grown_low g h4⟩
  obtain ⟨s1, hs1, hL1, hm1⟩ := open_new
  have OP : ∀ {w2 b F}, Dk w2 b newS F → (∀ k, F k → w.heap.size ≤ k) → Below w.heap.size w w2 → Calls Tryz.prog 10 #[.pointer (some ⟨b, 0, none⟩)] w2 fun e w' => ∃ ad c F', e = .returned (.tuple #[.pointer (some ⟨w2.heap.size, 0, none⟩), .slice ad 0 c, .int .i64 0]) ∧ Wl w w' b w2.heap.size s1 F' (nm 1) 1 ((0 : Nat) : Int) := fun {w2 b F} hd lo bel =>
    (open_some hd lo bel G (by simp [newS]) hs1).mono fun e w' ⟨ad, c, F', h1, h2, _⟩ => ⟨ad, c, F', h1, h2⟩
  have HOS : Hid (∀ (i : Nat) (o : Dd), os[i]? = some o → ∃ g q, (∀ W', (Instr.indexAt 22 (.slice a0 os.length c0) (.int .i64 (i : Int))).run Tryz.prog W' = .ok (.pointer (some ⟨g, q, none⟩)) W') ∧ DoAt w g q o) := hos
  clear hk ht hos
  go_enter Tryz.func4, Tryz.ntmps4
  go_wp2_with (first
    | (go_at_call 8; (with_reducible refine AW.mono ?_); rintro e w1 ⟨rfl, B1⟩)
    | (go_at_call 9; (with_reducible refine (NW B1).mono ?_); rintro e w2 ⟨b, F, rfl, hd2, lo2, B2⟩)
    | (go_at_call 10; (with_reducible refine (OP hd2 lo2 B2).mono ?_); rintro e w3 ⟨ad, c, F3, rfl, hW3⟩))
  obtain ⟨wb, hwb⟩ : ∃ wb, wb = w2.heap.size := ⟨_, rfl⟩
  rw [← hwb] at hW3 ⊢
  clear AW NW OP hd2 lo2 B1 B2 hwb
  have hK3 : Kpt w w3 b wb s1 F3 1 0 [] [] (.slice none 0 0) := ⟨hW3, hL1, Ro.nil _ _ _, by simp [Value.ownBlock]⟩
  clear hW3
  go_loopw [11, 12, 13] (fun va sy i wr => ∃ (k : Nat) (s : St) (F : Nat → Prop) (n cnt : Nat) (m1 m2 : List By) (ad : Option Addr) (c al sl : Nat), k ≤ os.length ∧ k ≤ 100 ∧ i = .int .i64 k ∧ sy = .int .i64 (sl : Int) ∧ va = .slice ad al c ∧ Hid (al = (m1 ++ m2).length ∧ sl = m1.length) ∧ Kpt w wr b wb s F n cnt m1 m2 (.slice ad al c) ∧ s.m ≤ 1 + 102 * k ∧ n ≤ 1 + k ∧ cnt ≤ 101 * (k + 1) ∧ al ≤ 101 * (k + 1)) (fun _ _ i _ => 100 - (intOf i).toNat)
  case atStart => exact ⟨0, s1, F3, 1, 0, [], [], none, 0, 0, 0, Nat.zero_le _, by omega, rfl, rfl, rfl, ⟨rfl, rfl⟩, hK3, by omega, by omega, by omega, by omega⟩
  case round =>
    obtain ⟨k, s, F, n, cnt, m1, m2, ada, ca, al, sl, hk1, hk2, rfl, rfl, rfl, HA, hK, hm, hn, hc, hal⟩ := hrel
    clear hK3
    by_cases hlt : k < os.length ∧ k < 100
    · obtain ⟨hl1, hl2⟩ := hlt
      have hl1i : (k : Int) < (os.length : Int) := by omega
      have hl2i : (k : Int) < 100 := by omega
      obtain ⟨o, ho⟩ : ∃ o, os[k]? = some o := ⟨_, List.getElem?_eq_getElem hl1⟩
      obtain ⟨g, q, hidx, hD⟩ := HOS.out k o ho
      have lift : ∀ {i : Nat} {u : Value}, w.cell? ⟨g, i, none⟩ = some u → wr.cell? ⟨g, i, none⟩ = some u := fun {i u} hu => (hK.wl.bel.cell (p := ⟨g, i, none⟩) (World.block_lt_of_cell? w _ hu)).trans hu
      have e0 := lift hD.c0
      have e1 := lift hD.c1
      have e2 := lift hD.c2
      have e3 := lift hD.c3
      have e4 := lift hD.c4
      have e5 := lift hD.c5
      obtain ⟨lo1, hlo1⟩ := hD.rx.form
      obtain ⟨c1', hlo1⟩ := hlo1
      obtain ⟨lo2, c2', hlo2⟩ := hD.rl.form
      obtain ⟨kd, v, b', vs, ls', kp, tn, nmm⟩ := o
      simp only at e0 e1 e2 e3 e4 e5 hlo1 hlo2
      subst hlo1 hlo2
      have hrx := hD.rx
      have hbl := hD.hb
      have hrl := hD.rl
      have hlr := hD.hl
      have hll := hD.hll
      simp only at hrx hbl hrl hlr hll
      obtain ⟨OB, hOB⟩ : ∃ OB, OB = Obj.cells #[.int .i64 kd, .slice lo1 b'.length c1', .slice lo2 ls'.length c2', .int .i64 kp, .int .i64 tn, .string nmm] 41 := ⟨_, rfl⟩
      have hKA := hK.grown (World.grownBy_alloc wr OB none)
      have hz : w.heap.size ≤ wr.heap.size := hK.wl.bel.size
      have hFz : ∀ j, F j → j < wr.heap.size := hK.wl.dk.lt
      have hwz : wb < wr.heap.size := hK.wl.lt
      have hzA : (wr.alloc OB).heap.size = wr.heap.size + 1 := by simp
      clear lift ho hD hK
      by_cases hkd : kd = 0
      · subst hkd
        have HKA : Hid (Kpt w (wr.alloc OB) b wb s F n cnt m1 m2 (.slice ada al ca)) := hKA
        have HOB : Hid (OB = Obj.cells #[.int .i64 0, .slice lo1 b'.length c1', .slice lo2 ls'.length c2', .int .i64 kp, .int .i64 tn, .string nmm] 41) := hOB
        by_cases hE : putE s (nm n) b' = 0
        · have AP := lo_append_ok hKA.wl hKA.lo (.slice lo1 b'.length c1') b' (hrx.below hKA.wl.bel) hbl (by omega) (by omega) hE
          have hL4 := hKA.lo.app hE
          have hm4 := putS_m s (nm n) b'
          generalize putS s (nm n) b' = s' at *
          have RW := @Kpt.row
          have KEY : ∀ {w4 F'}, Wl w w4 b wb s' F' (nm n) (n : Int) ((cnt + 1 : Nat) : Int) → Chg (fun j => F j ∨ j = wb) (wr.alloc OB) w4 → (∀ j, F' j → F j ∨ (wr.alloc OB).heap.size ≤ j) → w4.cell? ⟨wr.heap.size, 1, none⟩ = some (.slice lo1 b'.length c1') ∧ w.heap.size ≤ w4.heap.size ∧ ∃ us, us.length = al ∧ eL.Own w4 w.heap.size (.slice ada al ca) us ∧ ∀ {ad5 n5 c5 w5}, eL.Own w5 w.heap.size (.slice ad5 n5 c5) (us ++ [(lo1, b'.length, c1')]) → w4.grownBy w5 (Value.slice ada al ca).ownBlock → ((Value.slice ad5 n5 c5).ownBlock = (Value.slice ada al ca).ownBlock ∨ (∃ q, (Value.slice ad5 n5 c5).ownBlock = some q ∧ w4.heap.size ≤ q)) → n5 = al + 1 ∧ Kpt w w5 b wb s' F' n (cnt + 1) m1 (m2 ++ [b']) (.slice ad5 n5 c5) := fun {w4 F'} hW4 hC4 hF4 => by
            have nwb : ¬ (F wr.heap.size ∨ wr.heap.size = wb) := fun e => by
              rcases e with e | e
              · have := hFz _ e; omega
              · omega
            obtain ⟨us, hO4, hE4⟩ := HKA.out.row hC4
            refine ⟨hC4.cell (by rw [HOB.out]; exact new_at wr rfl rfl) nwb, hW4.bel.size, us, by rw [hE4.1, HA.out.1], hO4, fun {ad5 n5 c5 w5} hO5 hg5 hl5 => ⟨?_, ?_⟩⟩
            · have := hO5.len
              rw [this, List.length_append, hE4.1, HA.out.1]
              rfl
            · refine Kpt.push (ad := ada) (x := al) (c := ca) (p := (lo1, b'.length, c1')) hW4 hL4 hE4 (hrx.below hW4.bel) (fun h0 k hk => hrx.lt h0 k hk) hO5 hg5 (fun j hj => ?_) hl5
              have h1 := HKA.out.ap j hj
              have h2 := hO4.lt j hj
              have h3 := (HKA.out.ro.lt j hj).2
              refine ⟨fun e => ?_, h1.2, h2.1, h2.2⟩
              rcases hF4 j e with e | e
              · exact h1.1 e
              · omega
          rw [hOB] at AP KEY
          clear hKA hOB RW hE
          go_wp2_with (first
            | (go_at_call 12; (with_reducible refine AP.mono ?_); rintro e w4 ⟨rfl, F', hW4, hC4, hF4⟩; obtain ⟨hrec, hz4, us, hul, hO4, K5⟩ := KEY hW4 hC4 hF4; have hX4 : ∀ o, o = Obj.cells #[.slice lo1 b'.length c1'] 39 → eL.Rx (w4.alloc o) (.slice (some ⟨w4.heap.size, 0, none⟩) 1 1) [(lo1, b'.length, c1')] := fun o ho => Elm.rx_one fun j u hu => (by
                match j, hu with
                | 0, hu => injection hu with hu; rw [← hu, ho]; exact new_at w4 rfl rfl); have hO4' : ∀ o, eL.Own (w4.alloc o) w.heap.size (.slice ada al ca) us := fun o => hO4.grown (World.grownBy_alloc w4 o none); have HUL : Hid (us.length = al) := hul; clear hul)
            | (at_builtin; refine Elm.wpList_append (E := eL) rfl (.tmp 57) (.tmp 60) rfl w.heap.size _ us rfl (hO4' _) _ [(lo1, b'.length, c1')] rfl (hX4 _ rfl) (by have := HUL.out; simp; omega) (by have := HUL.out; show (us.length + 1) * 24 ≤ _; omega) (by simp; omega) ?_; intro ad5 n5 c5 w5 hO5 hg5 hl5))
          obtain ⟨rfl, hK5⟩ := K5 hO5 (grown_more ((World.grownBy_alloc w4 _ none).but _) hg5 (fun _ e => .inl e)) (hl5.imp id fun e => ⟨_, e, by simp⟩)
          go_roundw
          case rel => exact ⟨k + 1, s', F', n, cnt + 1, m1, m2 ++ [b'], ad5, c5, al + 1, sl, by omega, by omega, by go_num, rfl, rfl, ⟨by have := HA.out.1; simp at this ⊢; omega, HA.out.2⟩, hK5, by omega, by omega, by omega, by omega⟩
          case measure => simp [intOf]; omega
        · have AP := lo_append_no hKA.wl hKA.lo (.slice lo1 b'.length c1') b' (hrx.below hKA.wl.bel) hbl (by omega) (by omega) hE
          have KEY : ∀ {w4 F'}, Wl w w4 b wb s F' (nm n) (n : Int) (cnt : Int) → Chg (fun j => F j ∨ j = wb) (wr.alloc OB) w4 → (∀ j, F' j → F j ∨ (wr.alloc OB).heap.size ≤ j) → Kpt w w4 b wb s F' n cnt m1 m2 (.slice ada al ca) := fun {w4 F'} h1 h2 h3 => HKA.out.turn h1 HKA.out.lo rfl h2 h3
          rw [hOB] at AP KEY
          clear hKA hOB hE
          go_wp2_with (go_at_call 12; (with_reducible refine AP.mono ?_); rintro e w4 ⟨E, hE, rfl, F', hW4, hC4, hF4⟩; have hK4 := KEY hW4 hC4 hF4; clear hC4 hF4 KEY)
          go_roundw
          case rel => exact ⟨k + 1, s, F', n, cnt, m1, m2, ada, ca, al, sl, by omega, by omega, by go_num, rfl, rfl, HA, hK4, by omega, by omega, by omega, by omega⟩
          case measure => simp [intOf]; omega
      · have hkd' : (kd == 0) = false := by simpa using hkd
        by_cases hkd1 : kd = 1
        · subst hkd1
          have hnl := nm_len (n := n) (by omega)
          have SY := wsyn_any hKA.wl (by omega)
          rw [hKA.lo.hasE, if_pos rfl] at SY
          have hL5 := hKA.lo.sync
          have hm5 : (syncS s (nm n)).m = s.m := rfl
          generalize syncS s (nm n) = s5 at *
          have HKA : Hid (Kpt w (wr.alloc OB) b wb s F n cnt m1 m2 (.slice ada al ca)) := hKA
          have HOB : Hid (OB = Obj.cells #[.int .i64 1, .slice lo1 b'.length c1', .slice lo2 ls'.length c2', .int .i64 kp, .int .i64 tn, .string nmm] 41) := hOB
          rw [hOB] at SY
          clear hKA hOB
          go_wp2_with (go_at_call 14; (with_reducible refine SY.mono ?_); rintro e w4 ⟨rfl, F', hW4, hF4, hC4⟩)
          have hC4' : Chg (fun j => F j ∨ j = wb) (wr.alloc OB) w4 := by rw [HOB.out]; exact hC4.wide fun j hj => .inl hj
          have hF4' : ∀ j, F' j → F j ∨ (wr.alloc OB).heap.size ≤ j := by rw [HOB.out]; exact hF4
          have hK4 := HKA.out.turn (m1' := m1 ++ m2) (m2' := []) hW4 hL5 (by simp) hC4' hF4'
          go_roundw
          case rel => exact ⟨k + 1, s5, F', n, cnt, m1 ++ m2, [], ada, ca, al, al, by omega, by omega, by go_num, rfl, rfl, ⟨by rw [List.append_nil]; exact HA.out.1, HA.out.1⟩, hK4, by omega, by omega, by omega, by omega⟩
          case measure => simp [intOf]; omega
        · have hkd1' : (kd == 1) = false := by simpa using hkd1
          by_cases hkd2 : kd = 2
          · subst hkd2
            have HKA : Hid (Kpt w (wr.alloc OB) b wb s F n cnt m1 m2 (.slice ada al ca)) := hKA
            have HOB : Hid (OB = Obj.cells #[.int .i64 2, .slice lo1 b'.length c1', .slice lo2 ls'.length c2', .int .i64 kp, .int .i64 tn, .string nmm] 41) := hOB
            by_cases hbig : (100 : Int) < (ls'.length : Int)
            · clear hKA hOB
              go_wp2
              go_roundw
              case rel => exact ⟨k + 1, s, F, n, cnt, m1, m2, ada, ca, al, sl, by omega, by omega, by go_num, rfl, rfl, HA, by rw [← HOB.out]; exact HKA.out, by omega, by omega, by omega, by omega⟩
              case measure => simp [intOf]; omega
            · have hsm : (ls'.length : Int) ≤ 100 := by omega
              have RW := hrl.below hKA.wl.bel
              have hRF : ∀ j, j < w.heap.size → ¬ F j ∧ j < (wr.alloc OB).heap.size := fun j hj => ⟨fun e => by have := hKA.wl.lo j e; omega, by omega⟩
              cases hLg : long ls' with
              | true =>
                have RS := reset_long hKA.wl _ ls' RW (by omega) hLg
                rw [hOB] at RS
                clear hKA hOB RW hRF hbig
                go_wp2_with (go_at_call 16; (with_reducible refine RS.mono ?_); rintro e w4 ⟨rfl, rfl⟩)
                go_roundw
                case rel => exact ⟨k + 1, s, F, n, cnt, m1, m2, ada, ca, al, sl, by omega, by omega, by go_num, rfl, rfl, HA, by rw [← HOB.out]; exact HKA.out, by omega, by omega, by omega, by omega⟩
                case measure => simp [intOf]; omega
              | false =>
                cases hS : (layS s (nm (n + 1)) ls').2 with
                | false =>
                  have RS := reset_bad hKA.wl _ ls' RW hRF (by omega) (by omega) hLg (by omega) hS
                  rw [hOB] at RS
                  clear hKA hOB RW hRF hbig
                  go_wp2_with (go_at_call 16; (with_reducible refine RS.mono ?_); rintro e w4 ⟨rfl, F4, hW4, _, _⟩)
                  go_ret
                  exact ⟨rfl, hW4.bel⟩
                | true =>
                  have hnl := nm_len (n := n) (by omega)
                  have RS := reset_ok hKA.wl (by omega) _ ls' RW hRF (by omega) (by omega) hLg (by omega) hS
                  obtain ⟨hL5, hm5⟩ := hKA.lo.reset (by omega) hS
                  generalize remS (layS s (nm (n + 1)) ls').1 (nm n) = s5 at *
                  have KEY : ∀ {w4 F4}, Wl w w4 b wb s5 F4 (nm (n + 1)) ((n + 1 : Nat) : Int) (ls'.length : Int) → Chg (fun j => F j ∨ j = wb) (wr.alloc OB) w4 → (∀ o, (w4.alloc o).cell? ⟨wr.heap.size, 2, none⟩ = some (.slice lo2 ls'.length c2')) ∧ w.heap.size ≤ w4.heap.size ∧ ∃ us, us.length = ls'.length ∧ (∀ o, eL.Rx (w4.alloc o) (.slice lo2 ls'.length c2') us) ∧ ∀ {ad5 n5 c5 w5}, eL.Own w5 w.heap.size (.slice ad5 n5 c5) us → w4.grownBy w5 none → (∀ j, (Value.slice ad5 n5 c5).ownBlock = some j → w4.heap.size ≤ j) → n5 = ls'.length ∧ Kpt w w5 b wb s5 F4 (n + 1) ls'.length ls' [] (.slice ad5 n5 c5) := fun {w4 F4} hW4 hC4 => by
                    have nwb : ¬ (F wr.heap.size ∨ wr.heap.size = wb) := fun e => by
                      rcases e with e | e
                      · have := hFz _ e; omega
                      · omega
                    have hc := hC4.cell (a := ⟨wr.heap.size, 2, none⟩) (v := .slice lo2 ls'.length c2') (by rw [HOB.out]; exact new_at wr rfl rfl) nwb
                    obtain ⟨us, x1, x2, x3⟩ := hrl.below hW4.bel
                    exact ⟨fun o => (World.grownBy_alloc w4 o none).cell hc (by simp), hW4.bel.size, us, x2.1, fun o => x1.grown (World.grownBy_alloc w4 o none), fun {ad5 n5 c5 w5} hO5 hg5 hb5 => ⟨by rw [hO5.len, x2.1], Kpt.fresh hW4 hL5 x2 hO5 hg5 hb5⟩⟩
                  rw [hOB] at RS KEY
                  have hcn : (ls'.length : Int) ≤ 100 := hsm
                  clear hKA hOB RW hRF hbig hS
                  go_wp2_with (first
                    | (go_at_call 16; (with_reducible refine RS.mono ?_); rintro e w4 ⟨rfl, F4, hW4, hF4, hC4⟩; obtain ⟨hrc, hz4, us, hul, hX4, K5⟩ := KEY hW4 hC4; have hrc0 := hrc (Obj.cells #[] 39); have hM4 : eL.Own (w4.alloc (.cells #[] 39)) w.heap.size (.slice (some ⟨w4.heap.size, 0, none⟩) 0 0) [] := (Elm.made (E := eL) w4 #[] 0 _ rfl (by unfold maxLen; omega) rfl).low hz4; have HUL : Hid (us.length = ls'.length) := hul; clear hul)
                    | (at_builtin; refine Elm.wpList_append (E := eL) rfl (.tmp 83) (.tmp 85) rfl w.heap.size _ [] rfl hM4 _ us rfl (hX4 _) (by have := HUL.out; simp; omega) (by have := HUL.out; show (0 + us.length) * 24 ≤ _; omega) (by simp; omega) ?_; intro ad5 n5 c5 w5 hO5 hg5 hl5))
                  obtain ⟨rfl, hK5⟩ := K5 hO5 (grown_more (World.grownBy_alloc w4 _ none) hg5 (fun j e => .inr (by injection e with e; exact Nat.le_of_eq e))) (fun j hj => by
                    rcases hl5 with e | e
                    · rw [e] at hj; injection hj with hj; exact Nat.le_of_eq hj
                    · rw [e] at hj; injection hj with hj; simp at hj; omega)
                  go_roundw
                  case rel => exact ⟨k + 1, s5, F4, n + 1, ls'.length, ls', [], ad5, c5, ls'.length, ls'.length, by omega, by omega, by go_num, rfl, rfl, ⟨by simp, rfl⟩, hK5, by omega, by omega, by omega, by omega⟩
                  case measure => simp [intOf]; omega
          · have hkd2' : (kd == 2) = false := by simpa using hkd2
            have HKA : Hid (Kpt w (wr.alloc OB) b wb s F n cnt m1 m2 (.slice ada al ca)) := hKA
            have HOB : Hid (OB = Obj.cells #[.int .i64 kd, .slice lo1 b'.length c1', .slice lo2 ls'.length c2', .int .i64 kp, .int .i64 tn, .string nmm] 41) := hOB
            clear hKA hOB
            go_wp2
            go_roundw
            case rel => exact ⟨k + 1, s, F, n, cnt, m1, m2, ada, ca, al, sl, by omega, by omega, by go_num, rfl, rfl, HA, by rw [← HOB.out]; exact HKA.out, by omega, by omega, by omega, by omega⟩
            case measure => simp [intOf]; omega
    · have hx : k = os.length ∨ (k < os.length ∧ k = 100) := by omega
      have hki : (k : Int) ≤ 100 := by omega
      rcases hx with hx | ⟨hx, hx2⟩
      · have hxi : ¬ (k : Int) < (os.length : Int) := by omega
        have hxd : decide ((k : Int) < (os.length : Int)) = false := by simpa using hxi
        clear hx hlt
        have CR : Calls Tryz.prog 18 #[.pointer (some ⟨b, 0, none⟩), .int .i64 keep, .int .i64 torn] wr fun e w' => e = .returned (.tuple #[]) ∧ ∃ F', Wl w w' b wb (crashS s keep torn) F' (nm n) (n : Int) (cnt : Int) ∧ Ro w' w.heap.size (.slice ada al ca) (m1 ++ m2) (fun k => k < w.heap.size) ∧ (∀ j, (Value.slice ada al ca).ownBlock = some j → ¬ F' j ∧ j < w'.heap.size) :=
          (wcrash_any hK.wl keep torn hkb (by omega)).mono fun e w' ⟨h1, F', h2, h3, h4⟩ => ⟨h1, F', h2, hK.row (h4.wide fun j hj => .inl hj), fun j hj => ⟨fun e => by
            rcases h3 j e with e | e
            · exact (hK.ap j hj).1 e
            · have := (hK.ro.lt j hj).2; omega, Nat.lt_of_lt_of_le (hK.ro.lt j hj).2 h4.size⟩⟩
        have hcm : (crashS s keep torn).m = s.m := rfl
        have hFit : ∀ l ∈ m1 ++ m2, l.length ≤ 65536 := fun l hl => by
          rcases List.mem_append.1 hl with h | h
          · exact hK.lo.fit1 l h
          · exact hK.lo.fit l h
        obtain ⟨j, hj1, hj2⟩ := hK.lo.back keep torn
        generalize crashS s keep torn = s6 at *
        rcases hj2 with hnone | ⟨s2, n2, hsome, hL7, hm7⟩
        · have OP2 : ∀ {w5 F5}, Wl w w5 b wb s6 F5 (nm n) (n : Int) (cnt : Int) → Calls Tryz.prog 10 #[.pointer (some ⟨b, 0, none⟩)] w5 fun e w' => e = .returned (.tuple #[.pointer none, .slice none 0 0, .int .i64 3]) ∧ Below w.heap.size w w' := fun {w5 F5} h5 => open_none h5.dk h5.lo h5.bel G (by omega) hnone
          clear hK hFit
          go_wp2_with (first
            | (go_at_call 18; (with_reducible refine CR.mono ?_); rintro e w5 ⟨rfl, F5, hW5, _, _⟩)
            | (go_at_call 10; (with_reducible refine (OP2 hW5).mono ?_); rintro e w6 ⟨rfl, B6⟩))
          go_ret
          exact ⟨rfl, B6⟩
        · have hlen : (m1 ++ m2.take j).length = m1.length + j := by rw [List.length_append, List.length_take]; omega
          have htk : (m1 ++ m2).take (m1.length + j) = m1 ++ m2.take j := by rw [List.take_append, List.take_of_length_le (by omega), Nat.add_sub_cancel_left]
          have hall : al = m1.length + m2.length := by rw [HA.out.1]; exact List.length_append
          have hsl0 : sl = m1.length := HA.out.2
          have OP2 : ∀ {w5 F5}, Wl w w5 b wb s6 F5 (nm n) (n : Int) (cnt : Int) → Ro w5 w.heap.size (.slice ada al ca) (m1 ++ m2) (fun k => k < w.heap.size) → (∀ j, (Value.slice ada al ca).ownBlock = some j → ¬ F5 j ∧ j < w5.heap.size) → Calls Tryz.prog 10 #[.pointer (some ⟨b, 0, none⟩)] w5 fun e w' => ∃ ad c F', e = .returned (.tuple #[.pointer (some ⟨w5.heap.size, 0, none⟩), .slice ad (m1.length + j) c, .int .i64 0]) ∧ Wl w w' b w5.heap.size s2 F' (nm n2) (n2 : Int) ((m1.length + j : Nat) : Int) ∧ Ro w' (w5.heap.size + 1) (.slice ad (m1.length + j) c) (m1 ++ m2.take j) (fun k => w5.heap.size + 1 ≤ k) ∧ Ro w' w.heap.size (.slice ada al ca) (m1 ++ m2) (fun k => k < w.heap.size) := fun {w5 F5} h5 hr5 ha5 => by
            have := open_some h5.dk h5.lo h5.bel G (by omega) hsome
            rw [hlen] at this
            exact this.mono fun e w' ⟨ad, c, F', h1, h2, _, h4, h3⟩ => ⟨ad, c, F', h1, h2, h3, hr5.kept h4 (fun j hj => (ha5 j hj).1) fun j hj e => by have := h5.lo j e; omega⟩
          have LS : ∀ {w6 ad c B0}, Ro w6 B0 (.slice ad (m1.length + j) c) (m1 ++ m2.take j) (fun k => B0 ≤ k) → Ro w6 w.heap.size (.slice ada al ca) (m1 ++ m2) (fun k => k < w.heap.size) → ∃ ad7 c7, (∀ W : World, (Instr.slice 32 (.slice ada al ca) none (some (.int .i64 ((m1.length + j : Nat) : Int))) none).run Tryz.prog W = .ok (.slice ad7 (m1.length + j) c7) W) ∧ Calls Tryz.prog 20 #[.slice ad (m1.length + j) c, .slice ad7 (m1.length + j) c7] w6 fun e w' => e = .returned (.bool true) ∧ w6.grownBy w' none := fun {w6 ad c B0} hr hr2 => by
            obtain ⟨vs, hO, hE⟩ := hr2
            obtain ⟨ad7, c7, hsl, hO7, hb7⟩ := Elm.upto hO (k := m1.length + j) (by rw [hE.1, List.length_append]; omega)
            have hE7 := hE.take (m1.length + j)
            rw [htk] at hE7
            have hb : ∀ l ∈ m1 ++ m2.take j, l.length ≤ 9223372036854775807 := fun l hl => by
              have : l ∈ m1 ++ m2 := by
                rcases List.mem_append.1 hl with h | h
                · exact List.mem_append.2 (.inl h)
                · exact List.mem_append.2 (.inr (List.mem_of_mem_take h))
              have := hFit l this
              omega
            refine ⟨ad7, c7, fun W => ?_, ?_⟩
            · have h9 : (Instr.sliceAt 32 (.slice ada al ca) none (some (.int .i64 ((m1.length + j : Nat) : Int))) none).run Tryz.prog W = .ok (.slice ad7 (m1.length + j) c7) W := hsl W
              rw [run_sliceAt_slice W 32 _ _ _ _ Tryz.underlying32] at h9
              exact h9
            · refine (lists_any _ _ (m1 ++ m2.take j) (m1 ++ m2.take j) w6 (hr.rl (R' := fun _ => True) (fun _ _ => trivial) fun _ _ _ => trivial) ⟨_, hO7.rx, hE7.wide (R' := fun _ => True) fun _ _ => trivial, fun _ _ _ => trivial⟩ (by omega) (by omega) hb hb).mono ?_
              rintro e w' ⟨rfl, hg⟩
              exact ⟨by simp, hg⟩
          have hq1 : (sl : Int) ≤ ((m1.length + j : Nat) : Int) := by omega
          have hq2 : ((m1.length + j : Nat) : Int) ≤ (al : Int) := by omega
          have hq3 : decide ((sl : Int) ≤ ((m1.length + j : Nat) : Int)) = true := by simpa using hq1
          have hq4 : decide (((m1.length + j : Nat) : Int) ≤ (al : Int)) = true := by simpa using hq2
          generalize m1.length + j = M at *
          clear hK hFit hL7 htk hall hlen hsl0
          go_wp2_with (first
            | (go_at_call 18; (with_reducible refine CR.mono ?_); rintro e w5 ⟨rfl, F5, hW5, hR5, ha5⟩)
            | (go_at_call 10; (with_reducible refine (OP2 hW5 hR5 ha5).mono ?_); rintro e w6 ⟨ad6, c6, F6, rfl, hW6, hR6, hA6⟩; obtain ⟨ad7, c7, hsl7, LS7⟩ := LS hR6 hA6)
            | (go_at_call 20; (with_reducible refine LS7.mono ?_); rintro e w7 ⟨rfl, hg7⟩; have hW7 := hW6.grown hg7)
            | (go_at_call 27; (with_reducible refine (count_any hW7).mono ?_); rintro e w8 ⟨rfl, e8⟩; obtain rfl := e8.symm))
          go_ret
          exact ⟨rfl, hW7.bel⟩
      · have hxi : (k : Int) < (os.length : Int) := by omega
        have hx2i : ¬ (k : Int) < 100 := by omega
        have hx2d : decide ((k : Int) < 100) = false := by simpa using hx2i
        clear hx hlt hx2
        have CR : Calls Tryz.prog 18 #[.pointer (some ⟨b, 0, none⟩), .int .i64 keep, .int .i64 torn] wr fun e w' => e = .returned (.tuple #[]) ∧ ∃ F', Wl w w' b wb (crashS s keep torn) F' (nm n) (n : Int) (cnt : Int) ∧ Ro w' w.heap.size (.slice ada al ca) (m1 ++ m2) (fun k => k < w.heap.size) ∧ (∀ j, (Value.slice ada al ca).ownBlock = some j → ¬ F' j ∧ j < w'.heap.size) :=
          (wcrash_any hK.wl keep torn hkb (by omega)).mono fun e w' ⟨h1, F', h2, h3, h4⟩ => ⟨h1, F', h2, hK.row (h4.wide fun j hj => .inl hj), fun j hj => ⟨fun e => by
            rcases h3 j e with e | e
            · exact (hK.ap j hj).1 e
            · have := (hK.ro.lt j hj).2; omega, Nat.lt_of_lt_of_le (hK.ro.lt j hj).2 h4.size⟩⟩
        have hcm : (crashS s keep torn).m = s.m := rfl
        have hFit : ∀ l ∈ m1 ++ m2, l.length ≤ 65536 := fun l hl => by
          rcases List.mem_append.1 hl with h | h
          · exact hK.lo.fit1 l h
          · exact hK.lo.fit l h
        obtain ⟨j, hj1, hj2⟩ := hK.lo.back keep torn
        generalize crashS s keep torn = s6 at *
        rcases hj2 with hnone | ⟨s2, n2, hsome, hL7, hm7⟩
        · have OP2 : ∀ {w5 F5}, Wl w w5 b wb s6 F5 (nm n) (n : Int) (cnt : Int) → Calls Tryz.prog 10 #[.pointer (some ⟨b, 0, none⟩)] w5 fun e w' => e = .returned (.tuple #[.pointer none, .slice none 0 0, .int .i64 3]) ∧ Below w.heap.size w w' := fun {w5 F5} h5 => open_none h5.dk h5.lo h5.bel G (by omega) hnone
          clear hK hFit
          go_wp2_with (first
            | (go_at_call 18; (with_reducible refine CR.mono ?_); rintro e w5 ⟨rfl, F5, hW5, _, _⟩)
            | (go_at_call 10; (with_reducible refine (OP2 hW5).mono ?_); rintro e w6 ⟨rfl, B6⟩))
          go_ret
          exact ⟨rfl, B6⟩
        · have hlen : (m1 ++ m2.take j).length = m1.length + j := by rw [List.length_append, List.length_take]; omega
          have htk : (m1 ++ m2).take (m1.length + j) = m1 ++ m2.take j := by rw [List.take_append, List.take_of_length_le (by omega), Nat.add_sub_cancel_left]
          have hall : al = m1.length + m2.length := by rw [HA.out.1]; exact List.length_append
          have hsl0 : sl = m1.length := HA.out.2
          have OP2 : ∀ {w5 F5}, Wl w w5 b wb s6 F5 (nm n) (n : Int) (cnt : Int) → Ro w5 w.heap.size (.slice ada al ca) (m1 ++ m2) (fun k => k < w.heap.size) → (∀ j, (Value.slice ada al ca).ownBlock = some j → ¬ F5 j ∧ j < w5.heap.size) → Calls Tryz.prog 10 #[.pointer (some ⟨b, 0, none⟩)] w5 fun e w' => ∃ ad c F', e = .returned (.tuple #[.pointer (some ⟨w5.heap.size, 0, none⟩), .slice ad (m1.length + j) c, .int .i64 0]) ∧ Wl w w' b w5.heap.size s2 F' (nm n2) (n2 : Int) ((m1.length + j : Nat) : Int) ∧ Ro w' (w5.heap.size + 1) (.slice ad (m1.length + j) c) (m1 ++ m2.take j) (fun k => w5.heap.size + 1 ≤ k) ∧ Ro w' w.heap.size (.slice ada al ca) (m1 ++ m2) (fun k => k < w.heap.size) := fun {w5 F5} h5 hr5 ha5 => by
            have := open_some h5.dk h5.lo h5.bel G (by omega) hsome
            rw [hlen] at this
            exact this.mono fun e w' ⟨ad, c, F', h1, h2, _, h4, h3⟩ => ⟨ad, c, F', h1, h2, h3, hr5.kept h4 (fun j hj => (ha5 j hj).1) fun j hj e => by have := h5.lo j e; omega⟩
          have LS : ∀ {w6 ad c B0}, Ro w6 B0 (.slice ad (m1.length + j) c) (m1 ++ m2.take j) (fun k => B0 ≤ k) → Ro w6 w.heap.size (.slice ada al ca) (m1 ++ m2) (fun k => k < w.heap.size) → ∃ ad7 c7, (∀ W : World, (Instr.slice 32 (.slice ada al ca) none (some (.int .i64 ((m1.length + j : Nat) : Int))) none).run Tryz.prog W = .ok (.slice ad7 (m1.length + j) c7) W) ∧ Calls Tryz.prog 20 #[.slice ad (m1.length + j) c, .slice ad7 (m1.length + j) c7] w6 fun e w' => e = .returned (.bool true) ∧ w6.grownBy w' none := fun {w6 ad c B0} hr hr2 => by
            obtain ⟨vs, hO, hE⟩ := hr2
            obtain ⟨ad7, c7, hsl, hO7, hb7⟩ := Elm.upto hO (k := m1.length + j) (by rw [hE.1, List.length_append]; omega)
            have hE7 := hE.take (m1.length + j)
            rw [htk] at hE7
            have hb : ∀ l ∈ m1 ++ m2.take j, l.length ≤ 9223372036854775807 := fun l hl => by
              have : l ∈ m1 ++ m2 := by
                rcases List.mem_append.1 hl with h | h
                · exact List.mem_append.2 (.inl h)
                · exact List.mem_append.2 (.inr (List.mem_of_mem_take h))
              have := hFit l this
              omega
            refine ⟨ad7, c7, fun W => ?_, ?_⟩
            · have h9 : (Instr.sliceAt 32 (.slice ada al ca) none (some (.int .i64 ((m1.length + j : Nat) : Int))) none).run Tryz.prog W = .ok (.slice ad7 (m1.length + j) c7) W := hsl W
              rw [run_sliceAt_slice W 32 _ _ _ _ Tryz.underlying32] at h9
              exact h9
            · refine (lists_any _ _ (m1 ++ m2.take j) (m1 ++ m2.take j) w6 (hr.rl (R' := fun _ => True) (fun _ _ => trivial) fun _ _ _ => trivial) ⟨_, hO7.rx, hE7.wide (R' := fun _ => True) fun _ _ => trivial, fun _ _ _ => trivial⟩ (by omega) (by omega) hb hb).mono ?_
              rintro e w' ⟨rfl, hg⟩
              exact ⟨by simp, hg⟩
          have hq1 : (sl : Int) ≤ ((m1.length + j : Nat) : Int) := by omega
          have hq2 : ((m1.length + j : Nat) : Int) ≤ (al : Int) := by omega
          have hq3 : decide ((sl : Int) ≤ ((m1.length + j : Nat) : Int)) = true := by simpa using hq1
          have hq4 : decide (((m1.length + j : Nat) : Int) ≤ (al : Int)) = true := by simpa using hq2
          generalize m1.length + j = M at *
          clear hK hFit hL7 htk hall hlen hsl0
          go_wp2_with (first
            | (go_at_call 18; (with_reducible refine CR.mono ?_); rintro e w5 ⟨rfl, F5, hW5, hR5, ha5⟩)
            | (go_at_call 10; (with_reducible refine (OP2 hW5 hR5 ha5).mono ?_); rintro e w6 ⟨ad6, c6, F6, rfl, hW6, hR6, hA6⟩; obtain ⟨ad7, c7, hsl7, LS7⟩ := LS hR6 hA6)
            | (go_at_call 20; (with_reducible refine LS7.mono ?_); rintro e w7 ⟨rfl, hg7⟩; have hW7 := hW6.grown hg7)
            | (go_at_call 27; (with_reducible refine (count_any hW7).mono ?_); rintro e w8 ⟨rfl, e8⟩; obtain rfl := e8.symm))
          go_ret
          exact ⟨rfl, hW7.bel⟩
end Go.Proofs.YtapdhkgeolcogaaGreatDoor
