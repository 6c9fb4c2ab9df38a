/- 'TopTwice', walked. -/
import Derived.Test.YtapdhkgeolcogaaGreatDoorGz
namespace Go.Proofs.YtapdhkgeolcogaaGreatDoor
open Go.RowKit Dsk Lg
set_option linter.unusedVariables false

set_option maxRecDepth 100000 in
set_option maxHeartbeats 12800000 in
theorem topTwice.walk (w : World) (G : Gv w) (v0 : Value) (h0 : ∃ os, Ws w v0 os) (keep : Int) (hk : (Lit.int .i64 keep).wf = true) (torn : Int) (ht : (Lit.int .i64 torn).wf = true) (v3 : Value) (h3 : ∃ b, eB.Rx w v3 b ∧ b.length ≤ rch) :
    Calls Tryz.prog 7 #[v0, .int .i64 keep, .int .i64 torn, v3] w fun e w' => e = .returned (.bool true) ∧ Below w.heap.size w w' := by
  obtain ⟨os, a0, c0, rfl, hol, hos⟩ := h0
  obtain ⟨mo, hmx, hml⟩ := h3
  obtain ⟨a3, c3, rfl⟩ := hmx.form
  have hkb := (i64_of hk).2
  have NW : Calls Tryz.prog 9 #[] w fun e w' => ∃ b F, e = .returned (.pointer (some ⟨b, 0, none⟩)) ∧ Dk w' b newS F ∧ (∀ k, F k → w.heap.size ≤ k) ∧ Below w.heap.size w w' :=
    (new_ok w).mono fun e w' ⟨b, F, h1, h2, h3, h4⟩ => ⟨b, F, h1, h2, fun k hk => h3 k hk, grown_low (Below.refl _ _) h4⟩
  obtain ⟨s1, hs1, hL1, hm1⟩ := open_new
  have OP : ∀ {w2 b F}, Dk w2 b newS F → (∀ k, F k → w.heap.size ≤ k) → Below w.heap.size w w2 → Calls Tryz.prog 10 #[.pointer (some ⟨b, 0, none⟩)] w2 fun e w' => ∃ ad c F', e = .returned (.tuple #[.pointer (some ⟨w2.heap.size, 0, none⟩), .slice ad 0 c, .int .i64 0]) ∧ Wl w w' b w2.heap.size s1 F' (nm 1) 1 ((0 : Nat) : Int) := fun {w2 b F} hd lo bel =>
    (open_some hd lo bel G (by simp [newS]) hs1).mono fun e w' ⟨ad, c, F', h1, h2, _⟩ => ⟨ad, c, F', h1, h2⟩
  have hn1 : (nm 1 == [108, 111, 103, 45, 49]) = true := by rw [nm1]; rfl
  have HOS : Hid (∀ (i : Nat) (o : Wd), os[i]? = some o → ∃ g q, (∀ W', (Instr.indexAt 60 (.slice a0 os.length c0) (.int .i64 (i : Int))).run Tryz.prog W' = .ok (.pointer (some ⟨g, q, none⟩)) W') ∧ WrAt w g q o) := hos
  have HMX : Hid (eB.Rx w (.slice a3 mo.length c3) mo ∧ mo.length ≤ rch) := ⟨hmx, hml⟩
  clear hk ht hos hmx hml
  go_enter Tryz.func7, Tryz.ntmps7
  go_wp2_with (first
    | (go_at_call 9; (with_reducible refine NW.mono ?_); rintro e w2 ⟨b, F, rfl, hd2, lo2, B2⟩)
    | (go_at_call 10; (with_reducible refine (OP hd2 lo2 B2).mono ?_); rintro e w3 ⟨ad, c, F3, rfl, hW3⟩)
    | (go_at_call 24; (with_reducible refine (file_any hW3).mono ?_); rintro e w3b ⟨rfl, e4⟩; obtain rfl := e4.symm))
  obtain ⟨wb, hwb⟩ : ∃ wb, wb = w2.heap.size := ⟨_, rfl⟩
  rw [← hwb] at hW3 ⊢
  clear NW OP hd2 lo2 B2 hwb
  have hK3 : Kpt w w3 b wb s1 F3 1 0 [] [] (.slice none 0 0) := ⟨hW3, hL1, Ro.nil _ _ _, by simp [Value.ownBlock]⟩
  clear hW3 hn1
  go_loopw [13, 14, 15] (fun va sy i wr => ∃ (k : Nat) (s : St) (F : Nat → Prop) (cnt : Nat) (m1 m2 : List By) (ad : Option Addr) (c al sl : Nat), k ≤ os.length ∧ k ≤ 100 ∧ i = .int .i64 k ∧ sy = .int .i64 (sl : Int) ∧ va = .slice ad al c ∧ Hid (al = (m1 ++ m2).length ∧ sl = m1.length) ∧ Kpt w wr b wb s F 1 cnt m1 m2 (.slice ad al c) ∧ s.m ≤ 1 + k ∧ cnt ≤ k ∧ al ≤ k) (fun _ _ i _ => 100 - (intOf i).toNat)
  case atStart => exact ⟨0, s1, F3, 0, [], [], none, 0, 0, 0, Nat.zero_le _, by omega, rfl, rfl, rfl, ⟨rfl, rfl⟩, hK3, by omega, by omega, by omega⟩
  case round =>
    obtain ⟨k, s, F, cnt, m1, m2, ada, ca, al, sl, hk1, hk2, rfl, rfl, rfl, HA, hK, hm, hc, hal⟩ := hrel
    clear hK3
    by_cases hlt : k < os.length ∧ k < 100
    · obtain ⟨hl1, hl2⟩ := hlt
      have hl1i : (k : Int) < (os.length : Int) := by omega
      have hl2i : (k : Int) < 100 := by omega
      obtain ⟨o, ho⟩ : ∃ o, os[k]? = some o := ⟨_, List.getElem?_eq_getElem hl1⟩
      obtain ⟨g, q, hidx, hD⟩ := HOS.out k o ho
      have lift : ∀ {w' : World} {i : Nat} {u : Value}, Below w.heap.size w w' → w.cell? ⟨g, i, none⟩ = some u → w'.cell? ⟨g, i, none⟩ = some u := fun {w' i u} hb hu => (hb.cell (p := ⟨g, i, none⟩) (World.block_lt_of_cell? w _ hu)).trans hu
      obtain ⟨lo1, c1', hlo1⟩ := hD.rx.form
      obtain ⟨v, b', sy⟩ := o
      have d0 := hD.c0
      have d1 := hD.c1
      have hrx := hD.rx
      have hbl := hD.hb
      simp only at d0 d1 hlo1 hrx hbl
      subst hlo1
      have e0 := lift hK.wl.bel d0
      have LF : ∀ {w'}, Below w.heap.size w w' → w'.cell? ⟨g, q, none⟩ = some (.slice lo1 b'.length c1') ∧ w'.cell? ⟨g, q + 1, none⟩ = some (.bool sy) := fun {w'} hb => ⟨lift hb d0, lift hb d1⟩
      clear lift ho hD d0 d1
      have HK : Hid (Kpt w wr b wb s F 1 cnt m1 m2 (.slice ada al ca)) := hK
      by_cases hE : putE s (nm 1) b' = 0
      · have AP := lo_append_ok hK.wl hK.lo (.slice lo1 b'.length c1') b' (hrx.below hK.wl.bel) hbl (by omega) (by omega) hE
        have hL4 := hK.lo.app hE
        have hm4 := putS_m s (nm 1) b'
        generalize putS s (nm 1) b' = s' at *
        have KEY : ∀ {w4 F'}, Wl w w4 b wb s' F' (nm 1) ((1 : Nat) : Int) ((cnt + 1 : Nat) : Int) → Chg (fun j => F j ∨ j = wb) wr w4 → (∀ j, F' j → F j ∨ wr.heap.size ≤ j) → w4.cell? ⟨g, q, none⟩ = some (.slice lo1 b'.length c1') ∧ w.heap.size ≤ w4.heap.size ∧ ∃ us, us.length = al ∧ eL.Own w4 w.heap.size (.slice ada al ca) us ∧ ∀ {ad5 n5 c5 w5}, eL.Own w5 w.heap.size (.slice ad5 n5 c5) (us ++ [(lo1, b'.length, c1')]) → w4.grownBy w5 (Value.slice ada al ca).ownBlock → ((Value.slice ad5 n5 c5).ownBlock = (Value.slice ada al ca).ownBlock ∨ (∃ q, (Value.slice ad5 n5 c5).ownBlock = some q ∧ w4.heap.size ≤ q)) → n5 = al + 1 ∧ Kpt w w5 b wb s' F' 1 (cnt + 1) m1 (m2 ++ [b']) (.slice ad5 n5 c5) ∧ w5.cell? ⟨g, q + 1, none⟩ = some (.bool sy) := fun {w4 F'} hW4 hC4 hF4 => by
          obtain ⟨us, hO4, hE4⟩ := HK.out.row hC4
          refine ⟨(LF hW4.bel).1, hW4.bel.size, us, by rw [hE4.1, HA.out.1], hO4, fun {ad5 n5 c5 w5} hO5 hg5 hl5 => ?_⟩
          have hK5 := Kpt.push (ad := ada) (x := al) (c := ca) (p := (lo1, b'.length, c1')) hW4 hL4 hE4 (hrx.below hW4.bel) (fun h0 k hk => hrx.lt h0 k hk) hO5 hg5 (fun j hj => by
            have h1 := HK.out.ap j hj
            have h2 := hO4.lt j hj
            have h3 := (HK.out.ro.lt j hj).2
            refine ⟨fun e => ?_, h1.2, h2.1, h2.2⟩
            rcases hF4 j e with e | e
            · exact h1.1 e
            · omega) hl5
          refine ⟨?_, hK5, (LF hK5.wl.bel).2⟩
          have := hO5.len
          rw [this, List.length_append, hE4.1, HA.out.1]
          rfl
        clear hK hE
        cases sy with
        | false =>
          go_wp2_with (first
            | (go_at_call 12; (with_reducible refine AP.mono ?_); rintro e w4 ⟨rfl, F', hW4, hC4, hF4⟩; obtain ⟨hrec, hz4, us, hul, hO4, K5⟩ := KEY hW4 hC4 hF4; have hX4 : ∀ o, o = Obj.cells #[.slice lo1 b'.length c1'] 39 → eL.Rx (w4.alloc o) (.slice (some ⟨w4.heap.size, 0, none⟩) 1 1) [(lo1, b'.length, c1')] := fun o ho => Elm.rx_one fun j u hu => (by
                match j, hu with
                | 0, hu => injection hu with hu; rw [← hu, ho]; exact new_at w4 rfl rfl); have hO4' : ∀ o, eL.Own (w4.alloc o) w.heap.size (.slice ada al ca) us := fun o => hO4.grown (World.grownBy_alloc w4 o none); have HUL : Hid (us.length = al) := hul; clear hul)
            | (at_builtin; refine Elm.wpList_append (E := eL) rfl (.tmp 61) (.tmp 67) rfl w.heap.size _ us rfl (hO4' _) _ [(lo1, b'.length, c1')] rfl (hX4 _ rfl) (by have := HUL.out; simp; omega) (by have := HUL.out; show (us.length + 1) * 24 ≤ _; omega) (by simp; omega) ?_; intro ad5 n5 c5 w5 hO5 hg5 hl5; obtain ⟨rfl, hK5, hb5⟩ := K5 hO5 (grown_more ((World.grownBy_alloc w4 _ none).but _) hg5 (fun _ e => .inl e)) (hl5.imp id fun e => ⟨_, e, by simp⟩)))
          go_roundw
          case rel => exact ⟨k + 1, s', F', cnt + 1, m1, m2 ++ [b'], ad5, c5, al + 1, sl, by omega, by omega, by go_num, rfl, rfl, ⟨by have := HA.out.1; simp at this ⊢; omega, HA.out.2⟩, hK5, by omega, by omega, by omega⟩
          case measure => simp [intOf]; omega
        | true =>
          have hm6 : (syncS s' (nm 1)).m = s'.m := rfl
          go_wp2_with (first
            | (go_at_call 12; (with_reducible refine AP.mono ?_); rintro e w4 ⟨rfl, F', hW4, hC4, hF4⟩; obtain ⟨hrec, hz4, us, hul, hO4, K5⟩ := KEY hW4 hC4 hF4; have hX4 : ∀ o, o = Obj.cells #[.slice lo1 b'.length c1'] 39 → eL.Rx (w4.alloc o) (.slice (some ⟨w4.heap.size, 0, none⟩) 1 1) [(lo1, b'.length, c1')] := fun o ho => Elm.rx_one fun j u hu => (by
                match j, hu with
                | 0, hu => injection hu with hu; rw [← hu, ho]; exact new_at w4 rfl rfl); have hO4' : ∀ o, eL.Own (w4.alloc o) w.heap.size (.slice ada al ca) us := fun o => hO4.grown (World.grownBy_alloc w4 o none); have HUL : Hid (us.length = al) := hul; clear hul)
            | (at_builtin; refine Elm.wpList_append (E := eL) rfl (.tmp 61) (.tmp 67) rfl w.heap.size _ us rfl (hO4' _) _ [(lo1, b'.length, c1')] rfl (hX4 _ rfl) (by have := HUL.out; simp; omega) (by have := HUL.out; show (us.length + 1) * 24 ≤ _; omega) (by simp; omega) ?_; intro ad5 n5 c5 w5 hO5 hg5 hl5; obtain ⟨rfl, hK5, hb5⟩ := K5 hO5 (grown_more ((World.grownBy_alloc w4 _ none).but _) hg5 (fun _ e => .inl e)) (hl5.imp id fun e => ⟨_, e, by simp⟩))
            | (go_at_call 14; (with_reducible refine hK5.syn.mono ?_); rintro e w6 ⟨rfl, F6, hK6⟩))
          go_roundw
          case rel => exact ⟨k + 1, syncS s' (nm 1), F6, cnt + 1, m1 ++ (m2 ++ [b']), [], ad5, c5, al + 1, al + 1, by omega, by omega, by go_num, rfl, rfl, ⟨by have := HA.out.1; simp at this ⊢; omega, by have := HA.out.1; simp at this ⊢; omega⟩, hK6, by omega, by omega, by omega⟩
          case measure => simp [intOf]; omega
      · have AP := lo_append_no hK.wl hK.lo (.slice lo1 b'.length c1') b' (hrx.below hK.wl.bel) hbl (by omega) (by omega) hE
        have KEY : ∀ {w4 F'}, Wl w w4 b wb s F' (nm 1) ((1 : Nat) : Int) (cnt : Int) → Chg (fun j => F j ∨ j = wb) wr w4 → (∀ j, F' j → F j ∨ wr.heap.size ≤ j) → Kpt w w4 b wb s F' 1 cnt m1 m2 (.slice ada al ca) ∧ w4.cell? ⟨g, q + 1, none⟩ = some (.bool sy) := fun {w4 F'} h1 h2 h3 => ⟨HK.out.turn h1 HK.out.lo rfl h2 h3, (LF h1.bel).2⟩
        clear hK hE
        cases sy with
        | false =>
          go_wp2_with (go_at_call 12; (with_reducible refine AP.mono ?_); rintro e w4 ⟨E, hE, rfl, F', hW4, hC4, hF4⟩; obtain ⟨hK4, hb4⟩ := KEY hW4 hC4 hF4; clear hC4 hF4 KEY)
          go_roundw
          case rel => exact ⟨k + 1, s, F', cnt, m1, m2, ada, ca, al, sl, by omega, by omega, by go_num, rfl, rfl, HA, hK4, by omega, by omega, by omega⟩
          case measure => simp [intOf]; omega
        | true =>
          have hm6 : (syncS s (nm 1)).m = s.m := rfl
          go_wp2_with (first
            | (go_at_call 12; (with_reducible refine AP.mono ?_); rintro e w4 ⟨E, hE, rfl, F', hW4, hC4, hF4⟩; obtain ⟨hK4, hb4⟩ := KEY hW4 hC4 hF4; clear hC4 hF4 KEY)
            | (go_at_call 14; (with_reducible refine hK4.syn.mono ?_); rintro e w6 ⟨rfl, F6, hK6⟩))
          go_roundw
          case rel => exact ⟨k + 1, syncS s (nm 1), F6, cnt, m1 ++ m2, [], ada, ca, al, al, by omega, by omega, by go_num, rfl, rfl, ⟨by have := HA.out.1; simp at this ⊢; omega, by have := HA.out.1; simp at this ⊢; omega⟩, hK6, by omega, by omega, by omega⟩
          case measure => simp [intOf]; omega
    · have hx : k = os.length ∨ (k < os.length ∧ k = 100) := by omega
      have hki : (k : Int) ≤ 100 := by omega
      rcases hx with hx | ⟨hx, hx2⟩
      · have hxi : ¬ (k : Int) < (os.length : Int) := by omega
        have hxd : decide ((k : Int) < (os.length : Int)) = false := by simpa using hxi
        clear hx hlt
        have hFit : ∀ l ∈ m1 ++ m2, l.length ≤ 65536 := fun l hl => by
          rcases List.mem_append.1 hl with h | h
          · exact hK.lo.fit1 l h
          · exact hK.lo.fit l h
        have CR := crash_apt hK.wl keep torn hkb (by omega)
        have hAp := hK.apt
        have hcm : (crashS s keep torn).m = s.m := rfl
        obtain ⟨j, hj1, hj2⟩ := hK.lo.back keep torn
        generalize crashS s keep torn = s6 at *
        rcases hj2 with hnone | ⟨s2, n2, hsome, hL7, hm7⟩
        · have OP2 : ∀ {w5 F5}, Wl w w5 b wb s6 F5 (nm 1) ((1 : Nat) : Int) (cnt : Int) → Calls Tryz.prog 10 #[.pointer (some ⟨b, 0, none⟩)] w5 fun e w' => e = .returned (.tuple #[.pointer none, .slice none 0 0, .int .i64 3]) ∧ Below w.heap.size w w' := fun {w5 F5} h5 => open_none h5.dk h5.lo h5.bel G (by omega) hnone
          clear hK hFit
          go_wp2_with (first
            | (go_at_call 18; (with_reducible refine CR.mono ?_); rintro e w5 ⟨rfl, F5, hW5, _, _⟩)
            | (go_at_call 10; (with_reducible refine (OP2 hW5).mono ?_); rintro e w6 ⟨rfl, B6⟩))
          go_ret
          exact ⟨rfl, B6⟩
        · have hlen : (m1 ++ m2.take j).length = m1.length + j := by rw [List.length_append, List.length_take]; omega
          have htk : (m1 ++ m2).take (m1.length + j) = m1 ++ m2.take j := by rw [List.take_append, List.take_of_length_le (by omega), Nat.add_sub_cancel_left]
          have hall : al = m1.length + m2.length := by rw [HA.out.1]; exact List.length_append
          have hsl0 : sl = m1.length := HA.out.2
          obtain ⟨ml, hml⟩ : ∃ ml, ml = m1 ++ m2.take j := ⟨_, rfl⟩
          have hmf : ∀ l ∈ ml, l.length ≤ 65536 := by rw [hml]; exact hL7.fit1
          rw [← hml] at hsome hL7 hm7 hlen htk
          have OP2 : ∀ {w5 F5}, Wl w w5 b wb s6 F5 (nm 1) ((1 : Nat) : Int) (cnt : Int) → Apt w w5 wr.heap.size F5 (.slice ada al ca) (m1 ++ m2) → wr.heap.size ≤ w5.heap.size → Calls Tryz.prog 10 #[.pointer (some ⟨b, 0, none⟩)] w5 fun e w' => ∃ ad c F', e = .returned (.tuple #[.pointer (some ⟨w5.heap.size, 0, none⟩), .slice ad (m1.length + j) c, .int .i64 0]) ∧ Wl w w' b w5.heap.size s2 F' (nm n2) (n2 : Int) ((m1.length + j : Nat) : Int) ∧ Apt w w' w'.heap.size F' (.slice ad (m1.length + j) c) ml ∧ ∃ ad7 c7, (∀ W : World, (Instr.slice 32 (.slice ada al ca) none (some (.int .i64 ((m1.length + j : Nat) : Int))) none).run Tryz.prog W = .ok (.slice ad7 (m1.length + j) c7) W) ∧ Calls Tryz.prog 20 #[.slice ad (m1.length + j) c, .slice ad7 (m1.length + j) c7] w' fun e w'' => e = .returned (.bool true) ∧ w'.grownBy w'' none := fun {w5 F5} h5 ha5 hz5 => by
            have := open_apt h5.dk h5.lo h5.bel G (by omega) hsome
            rw [hlen] at this
            refine this.mono ?_
            rintro e w' ⟨ad, c, F', h1, h2, h3, h4, _⟩
            have hA := h4 _ _ _ hz5 ha5
            obtain ⟨ad7, c7, hs7, hA7⟩ := hA.upto (k := m1.length + j) (by rw [List.length_append]; omega)
            rw [htk] at hA7
            exact ⟨ad, c, F', h1, h2, h3, ad7, c7, hs7, lists_apt h3 hA7 (by omega) hmf⟩
          have hq1 : (sl : Int) ≤ ((m1.length + j : Nat) : Int) := by omega
          have hq2 : ((m1.length + j : Nat) : Int) ≤ (al : Int) := by omega
          have hq3 : decide ((sl : Int) ≤ ((m1.length + j : Nat) : Int)) = true := by simpa using hq1
          have hq4 : decide (((m1.length + j : Nat) : Int) ≤ (al : Int)) = true := by simpa using hq2
          have HL7 : Hid (Lo s2 n2 ml [] 1) := hL7
          have HMF : Hid (∀ l ∈ ml, l.length ≤ 65536) := hmf
          have HML : Hid (ml.length = m1.length + j) := hlen
          have hM0 : m1.length + j ≤ 100 := by omega
          generalize m1.length + j = M at *
          clear hK hFit hL7 htk hall hlen hsl0 hmf hml hsome
          go_wp2_with (first
            | (go_at_call 18; (with_reducible refine CR.mono ?_); rintro e w5 ⟨rfl, F5, hW5, hA5, hz5⟩)
            | (go_at_call 10; (with_reducible refine (OP2 hW5 (hA5 _ _ _ (Nat.le_refl _) hAp) hz5).mono ?_); rintro e w6 ⟨ad6, c6, F6, rfl, hW6, hR6, ad7, c7, hsl7, LS7⟩)
            | (go_at_call 20; (with_reducible refine LS7.mono ?_); rintro e w7 ⟨rfl, hg7⟩; have hW7 := hW6.grown hg7; have hR7 := (hR6.grown hg7).later hg7.size))
          have hd1 : decide (M < sl) = false := by simp; omega
          have hd2 : decide (al < M) = false := by simp; omega
          simp only [hd1, hd2, Bool.or_self]
          have hn2 := HL7.out.n2
          have hnl2 := nm_len (n := n2) (by omega)
          obtain ⟨wb6, hwb6⟩ : ∃ wb6, wb6 = w5.heap.size := ⟨_, rfl⟩
          rw [← hwb6] at hW7 ⊢
          clear CR OP2 hW5 hA5 hz5 hW6 hR6 LS7 hsl7 hg7 hAp hwb6 HA hq1 hq2 hq3 hq4 hcm HOS hd1 hd2
          go_loopw [10, 17] (fun vw i wr => ∃ (k : Nat) (s : St) (F : Nat → Prop) (wb5 : Nat), k ≤ 3 ∧ i = .int .i64 k ∧ vw = .pointer (some ⟨wb5, 0, none⟩) ∧ Wl w wr b wb5 s F (nm n2) (n2 : Int) (M : Int) ∧ Lo s n2 ml [] 1 ∧ Apt w wr wr.heap.size F (.slice ad6 M c6) ml ∧ s.m ≤ 1000) (fun _ i _ => 3 - (intOf i).toNat)
          case atStart => exact ⟨0, s2, F6, wb6, by omega, rfl, rfl, hW7, HL7.out, hR7, by have := HML.out; omega⟩
          case round =>
            obtain ⟨k', s, F, wb5, hk3, rfl, rfl, hW, hL, hA, hsm⟩ := hrel
            clear hW7 hR7
            by_cases hlt : k' < 3
            · have hlti : (k' : Int) < 3 := by omega
              have CR := crash_apt hW 0 0 (by omega) (by omega)
              obtain ⟨hL6, hm6⟩ := hL.firm 0 0
              generalize crashS s 0 0 = s6 at *
              have OP2 : ∀ {w5 F5}, Wl w w5 b wb5 s6 F5 (nm n2) (n2 : Int) (M : Int) → Apt w w5 wr.heap.size F5 (.slice ad6 M c6) ml → wr.heap.size ≤ w5.heap.size → Calls Tryz.prog 10 #[.pointer (some ⟨b, 0, none⟩)] w5 fun e w' => ∃ ad c F', e = .returned (.tuple #[.pointer (some ⟨w5.heap.size, 0, none⟩), .slice ad M c, .int .i64 0]) ∧ Wl w w' b w5.heap.size s6 F' (nm n2) (n2 : Int) (M : Int) ∧ Apt w w' w'.heap.size F' (.slice ad6 M c6) ml ∧ Calls Tryz.prog 20 #[.slice ad6 M c6, .slice ad M c] w' fun e w'' => e = .returned (.bool true) ∧ w'.grownBy w'' none := fun {w5 F5} h5 ha5 hz5 => by
                have := open_apt h5.dk h5.lo h5.bel G (by omega) hL6.again
                rw [HML.out] at this
                refine this.mono ?_
                rintro e w' ⟨ad, c, F', h1, h2, h3, h4, h6⟩
                have hA := h4 _ _ _ hz5 ha5
                exact ⟨ad, c, F', h1, h2, hA.later (by omega), lists_apt hA h3 (by have := HML.out; omega) HMF.out⟩
              have NL : ∀ {w7 wb7 F7}, Wl w w7 b wb7 s6 F7 (nm n2) (n2 : Int) (M : Int) → Calls Tryz.prog 28 #[.pointer (some ⟨b, 0, none⟩)] w7 fun e w' => ∃ ad c, e = .returned (.slice ad 1 c) ∧ w7.grownBy w' none := fun {w7 wb7 F7} h7 => by
                have := names_len b s6 F7 w7 h7.dk
                rw [hL6.cnt] at this
                exact this
              have HL6 : Hid (Lo s6 n2 ml [] 1) := hL6
              clear hW hL hL6 hlt
              go_wp2_with (first
                | (go_at_call 18; (with_reducible refine CR.mono ?_); rintro e w5 ⟨rfl, F5, hW5, hA5, hz5⟩; have hA5' := hA5 _ _ _ (Nat.le_refl _) hA; clear hA5 CR)
                | (go_at_call 10; (with_reducible refine (OP2 hW5 hA5' hz5).mono ?_); rintro e w6 ⟨ad8, c8, F6, rfl, hW6, hR6, LS7⟩; clear OP2)
                | (go_at_call 20; (with_reducible refine LS7.mono ?_); rintro e w7 ⟨rfl, hg7⟩; have hW7 := hW6.grown hg7; have hR7 := (hR6.grown hg7).later hg7.size; clear LS7 hW6 hR6)
                | (go_at_call 28; (with_reducible refine (NL hW7).mono ?_); rintro e w8 ⟨ad9, c9, rfl, hg8⟩; clear NL))
              go_roundw
              case rel => exact ⟨k' + 1, s6, F6, w5.heap.size, by omega, by go_num, rfl, hW7.grown hg8, HL6.out, (hR7.grown hg8).later hg8.size, by omega⟩
              case measure => simp [intOf]; omega
            · obtain rfl : k' = 3 := by omega
              clear hlt hk3
              by_cases hE : putE s (nm n2) mo = 0
              · have AP := lo_append_ok hW hL (.slice a3 mo.length c3) mo (HMX.out.1.below hW.bel) HMX.out.2 (by omega) (by omega) hE
                have hL4 := hL.app hE
                rw [List.nil_append] at hL4
                have hm4 := putS_m s (nm n2) mo
                generalize putS s (nm n2) mo = s' at *
                have SY : ∀ {w4 F4}, Wl w w4 b wb5 s' F4 (nm n2) (n2 : Int) ((M + 1 : Nat) : Int) → Calls Tryz.prog 14 #[.pointer (some ⟨wb5, 0, none⟩)] w4 fun e w' => e = .returned (.int .i64 0) ∧ ∃ F', Wl w w' b wb5 (syncS s' (nm n2)) F' (nm n2) (n2 : Int) ((M + 1 : Nat) : Int) := fun {w4 F4} h4 => by
                  have SY := wsyn_any h4 (by omega)
                  rw [hL4.hasE, if_pos rfl] at SY
                  exact SY.mono fun e w' ⟨h1, F', h2, h3, h4⟩ => ⟨h1, F', h2⟩
                have hL5 := hL4.sync
                have hm5 : (syncS s' (nm n2)).m = s'.m := rfl
                generalize syncS s' (nm n2) = s5 at *
                have CR : ∀ {w5 F5}, Wl w w5 b wb5 s5 F5 (nm n2) (n2 : Int) ((M + 1 : Nat) : Int) → Calls Tryz.prog 18 #[.pointer (some ⟨b, 0, none⟩), .int .i64 0, .int .i64 0] w5 fun e w' => e = .returned (.tuple #[]) ∧ ∃ F', Wl w w' b wb5 (crashS s5 0 0) F' (nm n2) (n2 : Int) ((M + 1 : Nat) : Int) := fun {w5 F5} h5 =>
                  (crash_apt h5 0 0 (by omega) (by omega)).mono fun e w' ⟨h1, F', h2, _⟩ => ⟨h1, F', h2⟩
                obtain ⟨hL6, hm6⟩ := hL5.firm 0 0
                generalize crashS s5 0 0 = s6 at *
                have hlen9 : (ml ++ [mo]).length = M + 1 := by have := HML.out; simp; omega
                have hat9 : (ml ++ [mo])[M]? = some mo := by rw [← HML.out]; simp
                have OP2 : ∀ {w5 F5}, Wl w w5 b wb5 s6 F5 (nm n2) (n2 : Int) ((M + 1 : Nat) : Int) → Calls Tryz.prog 10 #[.pointer (some ⟨b, 0, none⟩)] w5 fun e w' => ∃ ad c, e = .returned (.tuple #[.pointer (some ⟨w5.heap.size, 0, none⟩), .slice ad (M + 1) c, .int .i64 0]) ∧ Below w.heap.size w w' ∧ ∃ (g q : Nat) (p : S3), (∀ W' : World, (Instr.indexAt 32 (.slice ad (M + 1) c) (.int .i64 (M : Int))).run Tryz.prog W' = .ok (.pointer (some ⟨g, q, none⟩)) W') ∧ w'.drew.cell? ⟨g, q, none⟩ = some (.slice p.1 p.2.1 p.2.2) ∧ (convert 39 9 (.slice p.1 p.2.1 p.2.2)).run Tryz.prog w'.drew = .ok (.string (Cd.Code.ofB (bI mo))) w'.drew ∧ (convert 39 9 (.slice a3 mo.length c3)).run Tryz.prog w'.drew = .ok (.string (Cd.Code.ofB (bI mo))) w'.drew := fun {w5 F5} h5 => by
                  have := open_apt h5.dk h5.lo h5.bel G (by omega) hL6.again
                  rw [hlen9] at this
                  refine this.mono ?_
                  rintro e w' ⟨ad, c, F', h1, h2, h3, h4, h6⟩
                  have hmol : mo.length ≤ 9223372036854775807 := by have := HMX.out.2; unfold rch at this; omega
                  obtain ⟨g, q, u, q1, q2, q3⟩ := (h3.grown (grown_drew (grown_refl w' none))).at_ hat9 (by omega)
                  obtain ⟨ua, uc, rfl⟩ := q3.form
                  exact ⟨ad, c, h1, h2.bel, g, q, (ua, mo.length, uc), q1, q2, str_run (p := (ua, mo.length, uc)) q3 hmol, str_run (p := (a3, mo.length, c3)) (HMX.out.1.below h2.bel.drew) hmol⟩
                have hse := str_same mo mo
                have hd : decide (mo = mo) = true := by simp
                rw [hd] at hse
                generalize Cd.Code.ofB (bI mo) = X at *
                have hq9 : (((M + 1 : Nat) : Int) == ((M : Nat) : Int) + 1) = true := by simp
                have hwr : IntKind.i64.wrap ((M : Int) + 1) = (M : Int) + 1 := by rw [IntKind.wrap_i64]; omega
                have hMi : (M : Int) ≤ 100 := by omega
                clear hW hL hE hL4 hL5 hL6 hA hd HMX HMF HML HL7 hat9 hlen9 hm4 hm5 hm6
                go_wp2_with (first
                  | (go_at_call 12; (with_reducible refine AP.mono ?_); rintro e w4 ⟨rfl, F4, hW4, _, _⟩; clear AP)
                  | (go_at_call 14; (with_reducible refine (SY hW4).mono ?_); rintro e w5 ⟨rfl, F5, hW5⟩; clear SY)
                  | (go_at_call 18; (with_reducible refine (CR hW5).mono ?_); rintro e w6 ⟨rfl, F6, hW6⟩; clear CR)
                  | (go_at_call 10; (with_reducible refine (OP2 hW6).mono ?_); rintro e w7 ⟨ad9, c9, rfl, B7, g, q, ⟨pa, pn, pc⟩, hidx, hcl, hs1, hs2⟩; clear OP2))
                refine region_still (by kernel_rfl) (by kernel_rfl) ?_
                iterate 26 still_step
                refine wpStill_nil ?_
                go_wp2
                go_ret
                exact ⟨rfl, B7.drew⟩
              · have AP := lo_append_no hW hL (.slice a3 mo.length c3) mo (HMX.out.1.below hW.bel) HMX.out.2 (by omega) (by omega) hE
                clear hW hL hE hA
                go_wp2_with (go_at_call 12; (with_reducible refine AP.mono ?_); rintro e w4 ⟨E, hE, rfl, F', hW4, _, _⟩)
                go_ret
                exact ⟨rfl, hW4.bel⟩
      · have hxi : (k : Int) < (os.length : Int) := by omega
        have hx2i : ¬ (k : Int) < 100 := by omega
        have hx2d : decide ((k : Int) < 100) = false := by simpa using hx2i
        clear hx hlt hx2
        have hFit : ∀ l ∈ m1 ++ m2, l.length ≤ 65536 := fun l hl => by
          rcases List.mem_append.1 hl with h | h
          · exact hK.lo.fit1 l h
          · exact hK.lo.fit l h
        have CR := crash_apt hK.wl keep torn hkb (by omega)
        have hAp := hK.apt
        have hcm : (crashS s keep torn).m = s.m := rfl
        obtain ⟨j, hj1, hj2⟩ := hK.lo.back keep torn
        generalize crashS s keep torn = s6 at *
        rcases hj2 with hnone | ⟨s2, n2, hsome, hL7, hm7⟩
        · have OP2 : ∀ {w5 F5}, Wl w w5 b wb s6 F5 (nm 1) ((1 : Nat) : Int) (cnt : Int) → Calls Tryz.prog 10 #[.pointer (some ⟨b, 0, none⟩)] w5 fun e w' => e = .returned (.tuple #[.pointer none, .slice none 0 0, .int .i64 3]) ∧ Below w.heap.size w w' := fun {w5 F5} h5 => open_none h5.dk h5.lo h5.bel G (by omega) hnone
          clear hK hFit
          go_wp2_with (first
            | (go_at_call 18; (with_reducible refine CR.mono ?_); rintro e w5 ⟨rfl, F5, hW5, _, _⟩)
            | (go_at_call 10; (with_reducible refine (OP2 hW5).mono ?_); rintro e w6 ⟨rfl, B6⟩))
          go_ret
          exact ⟨rfl, B6⟩
        · have hlen : (m1 ++ m2.take j).length = m1.length + j := by rw [List.length_append, List.length_take]; omega
          have htk : (m1 ++ m2).take (m1.length + j) = m1 ++ m2.take j := by rw [List.take_append, List.take_of_length_le (by omega), Nat.add_sub_cancel_left]
          have hall : al = m1.length + m2.length := by rw [HA.out.1]; exact List.length_append
          have hsl0 : sl = m1.length := HA.out.2
          obtain ⟨ml, hml⟩ : ∃ ml, ml = m1 ++ m2.take j := ⟨_, rfl⟩
          have hmf : ∀ l ∈ ml, l.length ≤ 65536 := by rw [hml]; exact hL7.fit1
          rw [← hml] at hsome hL7 hm7 hlen htk
          have OP2 : ∀ {w5 F5}, Wl w w5 b wb s6 F5 (nm 1) ((1 : Nat) : Int) (cnt : Int) → Apt w w5 wr.heap.size F5 (.slice ada al ca) (m1 ++ m2) → wr.heap.size ≤ w5.heap.size → Calls Tryz.prog 10 #[.pointer (some ⟨b, 0, none⟩)] w5 fun e w' => ∃ ad c F', e = .returned (.tuple #[.pointer (some ⟨w5.heap.size, 0, none⟩), .slice ad (m1.length + j) c, .int .i64 0]) ∧ Wl w w' b w5.heap.size s2 F' (nm n2) (n2 : Int) ((m1.length + j : Nat) : Int) ∧ Apt w w' w'.heap.size F' (.slice ad (m1.length + j) c) ml ∧ ∃ ad7 c7, (∀ W : World, (Instr.slice 32 (.slice ada al ca) none (some (.int .i64 ((m1.length + j : Nat) : Int))) none).run Tryz.prog W = .ok (.slice ad7 (m1.length + j) c7) W) ∧ Calls Tryz.prog 20 #[.slice ad (m1.length + j) c, .slice ad7 (m1.length + j) c7] w' fun e w'' => e = .returned (.bool true) ∧ w'.grownBy w'' none := fun {w5 F5} h5 ha5 hz5 => by
            have := open_apt h5.dk h5.lo h5.bel G (by omega) hsome
            rw [hlen] at this
            refine this.mono ?_
            rintro e w' ⟨ad, c, F', h1, h2, h3, h4, _⟩
            have hA := h4 _ _ _ hz5 ha5
            obtain ⟨ad7, c7, hs7, hA7⟩ := hA.upto (k := m1.length + j) (by rw [List.length_append]; omega)
            rw [htk] at hA7
            exact ⟨ad, c, F', h1, h2, h3, ad7, c7, hs7, lists_apt h3 hA7 (by omega) hmf⟩
          have hq1 : (sl : Int) ≤ ((m1.length + j : Nat) : Int) := by omega
          have hq2 : ((m1.length + j : Nat) : Int) ≤ (al : Int) := by omega
          have hq3 : decide ((sl : Int) ≤ ((m1.length + j : Nat) : Int)) = true := by simpa using hq1
          have hq4 : decide (((m1.length + j : Nat) : Int) ≤ (al : Int)) = true := by simpa using hq2
          have HL7 : Hid (Lo s2 n2 ml [] 1) := hL7
          have HMF : Hid (∀ l ∈ ml, l.length ≤ 65536) := hmf
          have HML : Hid (ml.length = m1.length + j) := hlen
          have hM0 : m1.length + j ≤ 100 := by omega
          generalize m1.length + j = M at *
          clear hK hFit hL7 htk hall hlen hsl0 hmf hml hsome
          go_wp2_with (first
            | (go_at_call 18; (with_reducible refine CR.mono ?_); rintro e w5 ⟨rfl, F5, hW5, hA5, hz5⟩)
            | (go_at_call 10; (with_reducible refine (OP2 hW5 (hA5 _ _ _ (Nat.le_refl _) hAp) hz5).mono ?_); rintro e w6 ⟨ad6, c6, F6, rfl, hW6, hR6, ad7, c7, hsl7, LS7⟩)
            | (go_at_call 20; (with_reducible refine LS7.mono ?_); rintro e w7 ⟨rfl, hg7⟩; have hW7 := hW6.grown hg7; have hR7 := (hR6.grown hg7).later hg7.size))
          have hd1 : decide (M < sl) = false := by simp; omega
          have hd2 : decide (al < M) = false := by simp; omega
          simp only [hd1, hd2, Bool.or_self]
          have hn2 := HL7.out.n2
          have hnl2 := nm_len (n := n2) (by omega)
          obtain ⟨wb6, hwb6⟩ : ∃ wb6, wb6 = w5.heap.size := ⟨_, rfl⟩
          rw [← hwb6] at hW7 ⊢
          clear CR OP2 hW5 hA5 hz5 hW6 hR6 LS7 hsl7 hg7 hAp hwb6 HA hq1 hq2 hq3 hq4 hcm HOS hd1 hd2
          go_loopw [10, 17] (fun vw i wr => ∃ (k : Nat) (s : St) (F : Nat → Prop) (wb5 : Nat), k ≤ 3 ∧ i = .int .i64 k ∧ vw = .pointer (some ⟨wb5, 0, none⟩) ∧ Wl w wr b wb5 s F (nm n2) (n2 : Int) (M : Int) ∧ Lo s n2 ml [] 1 ∧ Apt w wr wr.heap.size F (.slice ad6 M c6) ml ∧ s.m ≤ 1000) (fun _ i _ => 3 - (intOf i).toNat)
          case atStart => exact ⟨0, s2, F6, wb6, by omega, rfl, rfl, hW7, HL7.out, hR7, by have := HML.out; omega⟩
          case round =>
            obtain ⟨k', s, F, wb5, hk3, rfl, rfl, hW, hL, hA, hsm⟩ := hrel
            clear hW7 hR7
            by_cases hlt : k' < 3
            · have hlti : (k' : Int) < 3 := by omega
              have CR := crash_apt hW 0 0 (by omega) (by omega)
              obtain ⟨hL6, hm6⟩ := hL.firm 0 0
              generalize crashS s 0 0 = s6 at *
              have OP2 : ∀ {w5 F5}, Wl w w5 b wb5 s6 F5 (nm n2) (n2 : Int) (M : Int) → Apt w w5 wr.heap.size F5 (.slice ad6 M c6) ml → wr.heap.size ≤ w5.heap.size → Calls Tryz.prog 10 #[.pointer (some ⟨b, 0, none⟩)] w5 fun e w' => ∃ ad c F', e = .returned (.tuple #[.pointer (some ⟨w5.heap.size, 0, none⟩), .slice ad M c, .int .i64 0]) ∧ Wl w w' b w5.heap.size s6 F' (nm n2) (n2 : Int) (M : Int) ∧ Apt w w' w'.heap.size F' (.slice ad6 M c6) ml ∧ Calls Tryz.prog 20 #[.slice ad6 M c6, .slice ad M c] w' fun e w'' => e = .returned (.bool true) ∧ w'.grownBy w'' none := fun {w5 F5} h5 ha5 hz5 => by
                have := open_apt h5.dk h5.lo h5.bel G (by omega) hL6.again
                rw [HML.out] at this
                refine this.mono ?_
                rintro e w' ⟨ad, c, F', h1, h2, h3, h4, h6⟩
                have hA := h4 _ _ _ hz5 ha5
                exact ⟨ad, c, F', h1, h2, hA.later (by omega), lists_apt hA h3 (by have := HML.out; omega) HMF.out⟩
              have NL : ∀ {w7 wb7 F7}, Wl w w7 b wb7 s6 F7 (nm n2) (n2 : Int) (M : Int) → Calls Tryz.prog 28 #[.pointer (some ⟨b, 0, none⟩)] w7 fun e w' => ∃ ad c, e = .returned (.slice ad 1 c) ∧ w7.grownBy w' none := fun {w7 wb7 F7} h7 => by
                have := names_len b s6 F7 w7 h7.dk
                rw [hL6.cnt] at this
                exact this
              have HL6 : Hid (Lo s6 n2 ml [] 1) := hL6
              clear hW hL hL6 hlt
              go_wp2_with (first
                | (go_at_call 18; (with_reducible refine CR.mono ?_); rintro e w5 ⟨rfl, F5, hW5, hA5, hz5⟩; have hA5' := hA5 _ _ _ (Nat.le_refl _) hA; clear hA5 CR)
                | (go_at_call 10; (with_reducible refine (OP2 hW5 hA5' hz5).mono ?_); rintro e w6 ⟨ad8, c8, F6, rfl, hW6, hR6, LS7⟩; clear OP2)
                | (go_at_call 20; (with_reducible refine LS7.mono ?_); rintro e w7 ⟨rfl, hg7⟩; have hW7 := hW6.grown hg7; have hR7 := (hR6.grown hg7).later hg7.size; clear LS7 hW6 hR6)
                | (go_at_call 28; (with_reducible refine (NL hW7).mono ?_); rintro e w8 ⟨ad9, c9, rfl, hg8⟩; clear NL))
              go_roundw
              case rel => exact ⟨k' + 1, s6, F6, w5.heap.size, by omega, by go_num, rfl, hW7.grown hg8, HL6.out, (hR7.grown hg8).later hg8.size, by omega⟩
              case measure => simp [intOf]; omega
            · obtain rfl : k' = 3 := by omega
              clear hlt hk3
              by_cases hE : putE s (nm n2) mo = 0
              · have AP := lo_append_ok hW hL (.slice a3 mo.length c3) mo (HMX.out.1.below hW.bel) HMX.out.2 (by omega) (by omega) hE
                have hL4 := hL.app hE
                rw [List.nil_append] at hL4
                have hm4 := putS_m s (nm n2) mo
                generalize putS s (nm n2) mo = s' at *
                have SY : ∀ {w4 F4}, Wl w w4 b wb5 s' F4 (nm n2) (n2 : Int) ((M + 1 : Nat) : Int) → Calls Tryz.prog 14 #[.pointer (some ⟨wb5, 0, none⟩)] w4 fun e w' => e = .returned (.int .i64 0) ∧ ∃ F', Wl w w' b wb5 (syncS s' (nm n2)) F' (nm n2) (n2 : Int) ((M + 1 : Nat) : Int) := fun {w4 F4} h4 => by
                  have SY := wsyn_any h4 (by omega)
                  rw [hL4.hasE, if_pos rfl] at SY
                  exact SY.mono fun e w' ⟨h1, F', h2, h3, h4⟩ => ⟨h1, F', h2⟩
                have hL5 := hL4.sync
                have hm5 : (syncS s' (nm n2)).m = s'.m := rfl
                generalize syncS s' (nm n2) = s5 at *
                have CR : ∀ {w5 F5}, Wl w w5 b wb5 s5 F5 (nm n2) (n2 : Int) ((M + 1 : Nat) : Int) → Calls Tryz.prog 18 #[.pointer (some ⟨b, 0, none⟩), .int .i64 0, .int .i64 0] w5 fun e w' => e = .returned (.tuple #[]) ∧ ∃ F', Wl w w' b wb5 (crashS s5 0 0) F' (nm n2) (n2 : Int) ((M + 1 : Nat) : Int) := fun {w5 F5} h5 =>
                  (crash_apt h5 0 0 (by omega) (by omega)).mono fun e w' ⟨h1, F', h2, _⟩ => ⟨h1, F', h2⟩
                obtain ⟨hL6, hm6⟩ := hL5.firm 0 0
                generalize crashS s5 0 0 = s6 at *
                have hlen9 : (ml ++ [mo]).length = M + 1 := by have := HML.out; simp; omega
                have hat9 : (ml ++ [mo])[M]? = some mo := by rw [← HML.out]; simp
                have OP2 : ∀ {w5 F5}, Wl w w5 b wb5 s6 F5 (nm n2) (n2 : Int) ((M + 1 : Nat) : Int) → Calls Tryz.prog 10 #[.pointer (some ⟨b, 0, none⟩)] w5 fun e w' => ∃ ad c, e = .returned (.tuple #[.pointer (some ⟨w5.heap.size, 0, none⟩), .slice ad (M + 1) c, .int .i64 0]) ∧ Below w.heap.size w w' ∧ ∃ (g q : Nat) (p : S3), (∀ W' : World, (Instr.indexAt 32 (.slice ad (M + 1) c) (.int .i64 (M : Int))).run Tryz.prog W' = .ok (.pointer (some ⟨g, q, none⟩)) W') ∧ w'.drew.cell? ⟨g, q, none⟩ = some (.slice p.1 p.2.1 p.2.2) ∧ (convert 39 9 (.slice p.1 p.2.1 p.2.2)).run Tryz.prog w'.drew = .ok (.string (Cd.Code.ofB (bI mo))) w'.drew ∧ (convert 39 9 (.slice a3 mo.length c3)).run Tryz.prog w'.drew = .ok (.string (Cd.Code.ofB (bI mo))) w'.drew := fun {w5 F5} h5 => by
                  have := open_apt h5.dk h5.lo h5.bel G (by omega) hL6.again
                  rw [hlen9] at this
                  refine this.mono ?_
                  rintro e w' ⟨ad, c, F', h1, h2, h3, h4, h6⟩
                  have hmol : mo.length ≤ 9223372036854775807 := by have := HMX.out.2; unfold rch at this; omega
                  obtain ⟨g, q, u, q1, q2, q3⟩ := (h3.grown (grown_drew (grown_refl w' none))).at_ hat9 (by omega)
                  obtain ⟨ua, uc, rfl⟩ := q3.form
                  exact ⟨ad, c, h1, h2.bel, g, q, (ua, mo.length, uc), q1, q2, str_run (p := (ua, mo.length, uc)) q3 hmol, str_run (p := (a3, mo.length, c3)) (HMX.out.1.below h2.bel.drew) hmol⟩
                have hse := str_same mo mo
                have hd : decide (mo = mo) = true := by simp
                rw [hd] at hse
                generalize Cd.Code.ofB (bI mo) = X at *
                have hq9 : (((M + 1 : Nat) : Int) == ((M : Nat) : Int) + 1) = true := by simp
                have hwr : IntKind.i64.wrap ((M : Int) + 1) = (M : Int) + 1 := by rw [IntKind.wrap_i64]; omega
                have hMi : (M : Int) ≤ 100 := by omega
                clear hW hL hE hL4 hL5 hL6 hA hd HMX HMF HML HL7 hat9 hlen9 hm4 hm5 hm6
                go_wp2_with (first
                  | (go_at_call 12; (with_reducible refine AP.mono ?_); rintro e w4 ⟨rfl, F4, hW4, _, _⟩; clear AP)
                  | (go_at_call 14; (with_reducible refine (SY hW4).mono ?_); rintro e w5 ⟨rfl, F5, hW5⟩; clear SY)
                  | (go_at_call 18; (with_reducible refine (CR hW5).mono ?_); rintro e w6 ⟨rfl, F6, hW6⟩; clear CR)
                  | (go_at_call 10; (with_reducible refine (OP2 hW6).mono ?_); rintro e w7 ⟨ad9, c9, rfl, B7, g, q, ⟨pa, pn, pc⟩, hidx, hcl, hs1, hs2⟩; clear OP2))
                refine region_still (by kernel_rfl) (by kernel_rfl) ?_
                iterate 26 still_step
                refine wpStill_nil ?_
                go_wp2
                go_ret
                exact ⟨rfl, B7.drew⟩
              · have AP := lo_append_no hW hL (.slice a3 mo.length c3) mo (HMX.out.1.below hW.bel) HMX.out.2 (by omega) (by omega) hE
                clear hW hL hE hA
                go_wp2_with (go_at_call 12; (with_reducible refine AP.mono ?_); rintro e w4 ⟨E, hE, rfl, F', hW4, _, _⟩)
                go_ret
                exact ⟨rfl, hW4.bel⟩
end Go.Proofs.YtapdhkgeolcogaaGreatDoor
