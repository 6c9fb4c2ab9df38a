/- 'WalLays', walked. -/
import Derived.Test.YtapdhkgeolcogaaGreatDoorGv
import Derived.Deep.CutBlock
import Derived.Deep.CutRange
namespace Go.Proofs.YtapdhkgeolcogaaGreatDoor
open Go.RowKit Dsk Lg
set_option linter.unusedVariables false

theorem Each.below {w w' : World} {vs : List S3} {ls : List By} {R : Nat → Prop} (h : Each w vs ls R) (g : Below w.heap.size w w') : Each w' vs ls R :=
  ⟨h.1, fun i p l hp hl => ⟨(h.2 i p l hp hl).1.below g, (h.2 i p l hp hl).2⟩⟩
theorem Rl.below {w w' : World} {v : Value} {ls : List By} {R : Nat → Prop} (h : Rl w v ls R) (g : Below w.heap.size w w') : Rl w' v ls R := by
  obtain ⟨vs, h1, h2, h3⟩ := h
  exact ⟨vs, h1.below g, h2.below g, h3⟩
/-- A record of the script appended. -/
theorem lo_append {W w : World} {b wb : Nat} {s : St} {F : Nat → Prop} {k : Nat} {n : Int} {cnt : Nat} {m1 m2 : List By} {c : Nat} (h : Wl W w b wb s F (nm k) n (cnt : Int)) (hL : Lo s k m1 m2 c) (v : Value) (l : By) (hX : eB.Rx w v l) (hl : l.length ≤ rch) (hc : cnt ≤ 100000000) (hm : s.m ≤ 800000000) :
    Calls Tryz.prog 12 #[.pointer (some ⟨wb, 0, none⟩), v] w fun e w' => (e = .returned (.int .i64 0) ∧ l.length ≤ 65536 ∧ ∃ s' F', Wl W w' b wb s' F' (nm k) n ((cnt + 1 : Nat) : Int) ∧ Lo s' k m1 (m2 ++ [l]) c ∧ s'.m ≤ s.m + 1 ∧ Chg (fun j => F j ∨ j = wb) w w' ∧ (∀ j, F' j → F j ∨ w.heap.size ≤ j)) ∨
      (∃ E : Int, (E == 0) = false ∧ e = .returned (.int .i64 E) ∧ ∃ F', Wl W w' b wb s F' (nm k) n (cnt : Int) ∧ Chg (fun j => F j ∨ j = wb) w w' ∧ (∀ j, F' j → F j ∨ w.heap.size ≤ j)) := by
  have hk := hL.n2
  have hnl := nm_len (n := k) (by omega)
  have hr : l.length ≤ 9223372036854775807 := by unfold rch at hl; omega
  refine (wappend_any h (by omega) v l hX hr (by omega) (by omega)).mono ?_
  rintro e w' ⟨rfl, F', h1, h2, h3⟩
  by_cases hE : putE s (nm k) l = 0
  · rw [if_pos hE] at h1
    rw [hE]
    exact .inl ⟨rfl, (putE_zero hE).1, _, F', h1, hL.app hE, putS_m _ _ _, h3, h2⟩
  · rw [if_neg hE, putS_bad hE] at h1
    exact .inr ⟨_, by simpa using hE, rfl, F', h1, h3, h2⟩
theorem names_len (b : Nat) (s : St) (F : Nat → Prop) (w : World) (h : Dk w b s F) :
    Calls Tryz.prog 28 #[.pointer (some ⟨b, 0, none⟩)] w fun e w' => ∃ ad c, e = .returned (.slice ad s.l.length c) ∧ w.grownBy w' none :=
  (names_any b s F w h).mono fun e w' ⟨ad, n, c, he, ho, hg⟩ => by
    have := ho.len
    rw [srtS_len, List.length_map] at this
    subst this
    exact ⟨ad, c, he, hg⟩
set_option maxRecDepth 100000 in
set_option maxHeartbeats 12800000 in
theorem walLays.walk (w : World) (G : Gv w) (v0 : Value) (h0 : ∃ os, Sc w v0 os) (v1 : Value) (h1 : ∃ ls, Rl w v1 ls (fun k => k < w.heap.size) ∧ (∀ l ∈ ls, l.length ≤ rch) ∧ ls.length ≤ 9223372036854775807) (keep : Int) (hk : (Lit.int .i64 keep).wf = true) (torn : Int) (ht : (Lit.int .i64 torn).wf = true) :
    Calls Tryz.prog 6 #[v0, v1, .int .i64 keep, .int .i64 torn] w fun e w' => e = .returned (.bool true) ∧ Below w.heap.size w w' := by
  obtain ⟨os, a0, c0, rfl, hol, hos⟩ := h0
  obtain ⟨ls, hR, hlr, hll⟩ := h1
  obtain ⟨a1, c1, rfl⟩ := hR.form
  have hkb := (i64_of hk).2
  have AW := awake_any w G
  have NW : ∀ {w1}, Below w.heap.size w w1 → Calls Tryz.prog 9 #[] w1 fun e w' => ∃ b F, e = .returned (.pointer (some ⟨b, 0, none⟩)) ∧ Dk w' b newS F ∧ (∀ k, F k → w.heap.size ≤ k) ∧ Below w.heap.size w w' := fun {w1} g =>
    (new_ok w1).mono fun e w' ⟨b, F, h1, h2, h3, h4⟩ => ⟨b, F, h1, h2, fun k hk => Nat.le_trans g.size (h3 k hk), grown_low g h4⟩
  obtain ⟨s1, hs1, hL1, hm1⟩ := open_new
  have OP : ∀ {w2 b F}, Dk w2 b newS F → (∀ k, F k → w.heap.size ≤ k) → Below w.heap.size w w2 → Calls Tryz.prog 10 #[.pointer (some ⟨b, 0, none⟩)] w2 fun e w' => ∃ ad c F', e = .returned (.tuple #[.pointer (some ⟨w2.heap.size, 0, none⟩), .slice ad 0 c, .int .i64 0]) ∧ Wl w w' b w2.heap.size s1 F' (nm 1) 1 ((0 : Nat) : Int) := fun {w2 b F} hd lo bel =>
    (open_some hd lo bel G (by simp [newS]) hs1).mono fun e w' ⟨ad, c, F', h1, h2, _⟩ => ⟨ad, c, F', h1, h2⟩
  clear hk ht
  by_cases hbig : (100 : Int) < (ls.length : Int)
  · clear hR hlr hos
    go_enter Tryz.func6, Tryz.ntmps6
    go_wp2_with (first
      | (go_at_call 8; (with_reducible refine AW.mono ?_); rintro e w1 ⟨rfl, B1⟩)
      | (go_at_call 9; (with_reducible refine (NW B1).mono ?_); rintro e w2 ⟨b, F, rfl, hd2, lo2, B2⟩)
      | (go_at_call 10; (with_reducible refine (OP hd2 lo2 B2).mono ?_); rintro e w3 ⟨ad, c, F3, rfl, hW3⟩))
    go_ret
    exact ⟨rfl, hW3.bel⟩
  · have hsm : (ls.length : Int) ≤ 100 := by omega
    have HR : Hid (Rl w (.slice a1 ls.length c1) ls (fun k => k < w.heap.size)) := hR
    have HLR : Hid (∀ l ∈ ls, l.length ≤ rch) := hlr
    have HOS : Hid (∀ (i : Nat) (o : Dd), os[i]? = some o → ∃ g q, (∀ W', (Instr.indexAt 22 (.slice a0 os.length c0) (.int .i64 (i : Int))).run Tryz.prog W' = .ok (.pointer (some ⟨g, q, none⟩)) W') ∧ DoAt w g q o) := hos
    clear hR hlr hos hbig
    go_enter Tryz.func6, Tryz.ntmps6
    go_wp2_with (first
      | (go_at_call 8; (with_reducible refine AW.mono ?_); rintro e w1 ⟨rfl, B1⟩)
      | (go_at_call 9; (with_reducible refine (NW B1).mono ?_); rintro e w2 ⟨b, F, rfl, hd2, lo2, B2⟩)
      | (go_at_call 10; (with_reducible refine (OP hd2 lo2 B2).mono ?_); rintro e w3 ⟨ad, c, F3, rfl, hW3⟩))
    obtain ⟨wb, hwb⟩ : ∃ wb, wb = w2.heap.size := ⟨_, rfl⟩
    rw [← hwb] at hW3 ⊢
    clear AW NW OP hd2 lo2 B1 B2 hwb
    go_loopw [13] (fun i wr => ∃ (k : Nat) (s : St) (F : Nat → Prop) (cnt : Nat) (m2 : List By), k ≤ os.length ∧ k ≤ 100 ∧ i = .int .i64 k ∧ Wl w wr b wb s F (nm 1) 1 (cnt : Int) ∧ Lo s 1 [] m2 1 ∧ s.m ≤ 1 + k ∧ cnt ≤ k) (fun i _ => 100 - (intOf i).toNat)
    case atStart => exact ⟨0, s1, F3, 0, [], Nat.zero_le _, by omega, rfl, hW3, hL1, by omega, Nat.le_refl _⟩
    case round =>
      obtain ⟨k, s, F, cnt, m2, hk1, hk2, rfl, hW, hL, hm, hc⟩ := hrel
      clear hW3
      by_cases hlt : k < os.length ∧ k < 100
      · obtain ⟨hl1, hl2⟩ := hlt
        have hl1i : (k : Int) < (os.length : Int) := by omega
        have hl2i : (k : Int) < 100 := by omega
        obtain ⟨o, ho⟩ : ∃ o, os[k]? = some o := ⟨_, List.getElem?_eq_getElem hl1⟩
        obtain ⟨g, q, hidx, hD⟩ := HOS.out k o ho
        have e0 : wr.cell? ⟨g, q, none⟩ = some (.int .i64 o.kd) := (hW.bel.cell (p := ⟨g, q, none⟩) (World.block_lt_of_cell? w _ hD.c0)).trans hD.c0
        have e1 : wr.cell? ⟨g, q + 1, none⟩ = some o.v := (hW.bel.cell (p := ⟨g, q + 1, none⟩) (World.block_lt_of_cell? w _ hD.c1)).trans hD.c1
        by_cases hkd : o.kd = 0
        · have AP := lo_append hW hL o.v o.b (hD.rx.below hW.bel) hD.hb (by omega) (by omega)
          obtain ⟨kd, v, b', vs, ls', kp, tn, nmm⟩ := o
          simp only at hkd e0 e1 AP
          subst hkd
          obtain ⟨ov, on, oc, rfl⟩ : ∃ ov on oc, v = .slice ov on oc := by obtain ⟨x, y, e⟩ := hD.rx.form; exact ⟨_, _, _, e⟩
          clear hD hW ho
          go_wp2_with (go_at_call 12; (with_reducible refine AP.mono ?_); rintro e w4 (⟨rfl, _, s', F', hW4, hL4, hm4, _, _⟩ | ⟨E, hE, rfl, F', hW4, _, _⟩))
          · go_roundw
            case rel => exact ⟨k + 1, s', F', cnt + 1, m2 ++ [b'], by omega, by omega, by go_num, hW4, hL4, by omega, by omega⟩
            case measure => simp [intOf]; omega
          · go_roundw
            case rel => exact ⟨k + 1, s, F', cnt, m2, by omega, by omega, by go_num, hW4, hL, by omega, by omega⟩
            case measure => simp [intOf]; omega
        · have hkd' : (o.kd == 0) = false := by simpa using hkd
          generalize o.kd = kd at *
          clear hD ho e1
          go_wp2
          go_roundw
          case rel => exact ⟨k + 1, s, F, cnt, m2, by omega, by omega, by go_num, hW, hL, by omega, by omega⟩
          case measure => simp [intOf]; omega
      · have hx : k = os.length ∨ (k < os.length ∧ k = 100) := by omega
        have hki : (k : Int) ≤ 100 := by omega
        rcases hx with hx | ⟨hx, hx2⟩
        · have hxi : ¬ (k : Int) < (os.length : Int) := by omega
          have hxd : decide ((k : Int) < (os.length : Int)) = false := by simpa using hxi
          clear hx hlt
          have RW := HR.out.below hW.bel
          have hRF : ∀ j, j < w.heap.size → ¬ F j ∧ j < wr.heap.size := fun j hj => ⟨fun e => by have := hW.lo j e; omega, Nat.lt_of_lt_of_le hj hW.bel.size⟩
          cases hLg : long ls with
          | true =>
            have RS := reset_long hW _ ls RW (by omega) hLg
            have BW := hW.bel
            clear hW hL RW hRF
            go_wp2_with (go_at_call 16; (with_reducible refine RS.mono ?_); rintro e w4 ⟨rfl, e4⟩; obtain rfl := e4.symm)
            go_ret
            exact ⟨rfl, BW⟩
          | false =>
            cases hS : (layS s (nm (1 + 1)) ls).2 with
            | false =>
              have RS := reset_bad (n := 1) hW _ ls RW hRF (by omega) (by omega) hLg (by omega) hS
              clear hW hL RW hRF
              go_wp2_with (go_at_call 16; (with_reducible refine RS.mono ?_); rintro e w4 ⟨rfl, F4, hW4, _, _⟩)
              go_ret
              exact ⟨rfl, hW4.bel⟩
            | true =>
              have RS := reset_ok (n := 1) hW (by rw [nm1]; simp) _ ls RW hRF (by omega) (by omega) hLg (by omega) hS
              obtain ⟨hL5, hm5⟩ := hL.reset (by omega) hS
              generalize remS (layS s (nm (1 + 1)) ls).1 (nm 1) = s5 at *
              have hsm5 : s5.m ≤ 1000 := by omega
              have CR : ∀ {w4 F4}, Wl w w4 b wb s5 F4 (nm (1 + 1)) ((1 + 1 : Nat) : Int) (ls.length : Int) → Calls Tryz.prog 18 #[.pointer (some ⟨b, 0, none⟩), .int .i64 keep, .int .i64 torn] w4 fun e w' => e = .returned (.tuple #[]) ∧ ∃ F', Wl w w' b wb (crashS s5 keep torn) F' (nm (1 + 1)) ((1 + 1 : Nat) : Int) (ls.length : Int) := fun {w4 F4} h4 =>
                (wcrash_any h4 keep torn hkb (by omega)).mono fun e w' ⟨h1, F', h2, _⟩ => ⟨h1, F', h2⟩
              obtain ⟨hL6, hm6⟩ := hL5.firm keep torn
              generalize crashS s5 keep torn = s6 at *
              have OP2 : ∀ {w5 F5}, Wl w w5 b wb s6 F5 (nm (1 + 1)) ((1 + 1 : Nat) : Int) (ls.length : Int) → Calls Tryz.prog 10 #[.pointer (some ⟨b, 0, none⟩)] w5 fun e w' => ∃ ad c F', e = .returned (.tuple #[.pointer (some ⟨w5.heap.size, 0, none⟩), .slice ad ls.length c, .int .i64 0]) ∧ Wl w w' b w5.heap.size s6 F' (nm (1 + 1)) ((1 + 1 : Nat) : Int) (ls.length : Int) ∧ Ro w' (w5.heap.size + 1) (.slice ad ls.length c) ls (fun k => w5.heap.size + 1 ≤ k) := fun {w5 F5} h5 =>
                (open_some h5.dk h5.lo h5.bel G (by omega) hL6.again).mono fun e w' ⟨ad, c, F', h1, h2, _, _, h3⟩ => ⟨ad, c, F', h1, h2, h3⟩
              have LS : ∀ {w6 wb6 F6 ad c B0}, Wl w w6 b wb6 s6 F6 (nm (1 + 1)) ((1 + 1 : Nat) : Int) (ls.length : Int) → Ro w6 B0 (.slice ad ls.length c) ls (fun k => B0 ≤ k) → Calls Tryz.prog 20 #[.slice ad ls.length c, .slice a1 ls.length c1] w6 fun e w' => e = .returned (.bool true) ∧ w6.grownBy w' none := fun {w6 wb6 F6 ad c B0} h6 hr => by
                have hb : ∀ l ∈ ls, l.length ≤ 9223372036854775807 := fun l hl => by have := HLR.out l hl; unfold rch at this; omega
                refine (lists_any _ _ ls ls w6 (hr.rl (R' := fun _ => True) (fun _ _ => trivial) fun _ _ _ => trivial) (HR.out.below h6.bel) (by omega) (by omega) hb hb).mono ?_
                rintro e w' ⟨rfl, hg⟩
                exact ⟨by simp, hg⟩
              have NL : ∀ {w7 wb7 F7}, Wl w w7 b wb7 s6 F7 (nm (1 + 1)) ((1 + 1 : Nat) : Int) (ls.length : Int) → Calls Tryz.prog 28 #[.pointer (some ⟨b, 0, none⟩)] w7 fun e w' => ∃ ad c, e = .returned (.slice ad 1 c) ∧ w7.grownBy w' none := fun {w7 wb7 F7} h7 => by
                have := names_len b s6 F7 w7 h7.dk
                rw [hL6.cnt] at this
                exact this
              have hlq : ((ls.length : Int) == (ls.length : Int)) = true := by simp
              clear hW hL RW hRF hL5 hL6 HR HLR HOS hS
              go_wp2_with (first
                | (go_at_call 16; (with_reducible refine RS.mono ?_); rintro e w4 ⟨rfl, F4, hW4, _, _⟩; clear RS)
                | (go_at_call 27; (with_reducible refine (count_any hW4).mono ?_); rintro e w4b ⟨rfl, e4⟩; obtain rfl := e4.symm)
                | (go_at_call 18; (with_reducible refine (CR hW4).mono ?_); rintro e w5 ⟨rfl, F5, hW5⟩; clear CR)
                | (go_at_call 10; (with_reducible refine (OP2 hW5).mono ?_); rintro e w6 ⟨ad6, c6, F6, rfl, hW6, hR6⟩; clear OP2)
                | (go_at_call 20; (with_reducible refine (LS hW6 hR6).mono ?_); rintro e w7 ⟨rfl, hg7⟩; have hW7 := hW6.grown hg7; clear LS)
                | (go_at_call 28; (with_reducible refine (NL hW7).mono ?_); rintro e w8 ⟨ad8, c8, rfl, hg8⟩; clear NL))
              go_ret
              exact ⟨rfl, (hW7.grown hg8).bel⟩
        · have hxi : (k : Int) < (os.length : Int) := by omega
          have hx2i : ¬ (k : Int) < 100 := by omega
          have hx2d : decide ((k : Int) < 100) = false := by simpa using hx2i
          clear hx hlt hx2
          have RW := HR.out.below hW.bel
          have hRF : ∀ j, j < w.heap.size → ¬ F j ∧ j < wr.heap.size := fun j hj => ⟨fun e => by have := hW.lo j e; omega, Nat.lt_of_lt_of_le hj hW.bel.size⟩
          cases hLg : long ls with
          | true =>
            have RS := reset_long hW _ ls RW (by omega) hLg
            have BW := hW.bel
            clear hW hL RW hRF
            go_wp2_with (go_at_call 16; (with_reducible refine RS.mono ?_); rintro e w4 ⟨rfl, e4⟩; obtain rfl := e4.symm)
            go_ret
            exact ⟨rfl, BW⟩
          | false =>
            cases hS : (layS s (nm (1 + 1)) ls).2 with
            | false =>
              have RS := reset_bad (n := 1) hW _ ls RW hRF (by omega) (by omega) hLg (by omega) hS
              clear hW hL RW hRF
              go_wp2_with (go_at_call 16; (with_reducible refine RS.mono ?_); rintro e w4 ⟨rfl, F4, hW4, _, _⟩)
              go_ret
              exact ⟨rfl, hW4.bel⟩
            | true =>
              have RS := reset_ok (n := 1) hW (by rw [nm1]; simp) _ ls RW hRF (by omega) (by omega) hLg (by omega) hS
              obtain ⟨hL5, hm5⟩ := hL.reset (by omega) hS
              generalize remS (layS s (nm (1 + 1)) ls).1 (nm 1) = s5 at *
              have hsm5 : s5.m ≤ 1000 := by omega
              have CR : ∀ {w4 F4}, Wl w w4 b wb s5 F4 (nm (1 + 1)) ((1 + 1 : Nat) : Int) (ls.length : Int) → Calls Tryz.prog 18 #[.pointer (some ⟨b, 0, none⟩), .int .i64 keep, .int .i64 torn] w4 fun e w' => e = .returned (.tuple #[]) ∧ ∃ F', Wl w w' b wb (crashS s5 keep torn) F' (nm (1 + 1)) ((1 + 1 : Nat) : Int) (ls.length : Int) := fun {w4 F4} h4 =>
                (wcrash_any h4 keep torn hkb (by omega)).mono fun e w' ⟨h1, F', h2, _⟩ => ⟨h1, F', h2⟩
              obtain ⟨hL6, hm6⟩ := hL5.firm keep torn
              generalize crashS s5 keep torn = s6 at *
              have OP2 : ∀ {w5 F5}, Wl w w5 b wb s6 F5 (nm (1 + 1)) ((1 + 1 : Nat) : Int) (ls.length : Int) → Calls Tryz.prog 10 #[.pointer (some ⟨b, 0, none⟩)] w5 fun e w' => ∃ ad c F', e = .returned (.tuple #[.pointer (some ⟨w5.heap.size, 0, none⟩), .slice ad ls.length c, .int .i64 0]) ∧ Wl w w' b w5.heap.size s6 F' (nm (1 + 1)) ((1 + 1 : Nat) : Int) (ls.length : Int) ∧ Ro w' (w5.heap.size + 1) (.slice ad ls.length c) ls (fun k => w5.heap.size + 1 ≤ k) := fun {w5 F5} h5 =>
                (open_some h5.dk h5.lo h5.bel G (by omega) hL6.again).mono fun e w' ⟨ad, c, F', h1, h2, _, _, h3⟩ => ⟨ad, c, F', h1, h2, h3⟩
              have LS : ∀ {w6 wb6 F6 ad c B0}, Wl w w6 b wb6 s6 F6 (nm (1 + 1)) ((1 + 1 : Nat) : Int) (ls.length : Int) → Ro w6 B0 (.slice ad ls.length c) ls (fun k => B0 ≤ k) → Calls Tryz.prog 20 #[.slice ad ls.length c, .slice a1 ls.length c1] w6 fun e w' => e = .returned (.bool true) ∧ w6.grownBy w' none := fun {w6 wb6 F6 ad c B0} h6 hr => by
                have hb : ∀ l ∈ ls, l.length ≤ 9223372036854775807 := fun l hl => by have := HLR.out l hl; unfold rch at this; omega
                refine (lists_any _ _ ls ls w6 (hr.rl (R' := fun _ => True) (fun _ _ => trivial) fun _ _ _ => trivial) (HR.out.below h6.bel) (by omega) (by omega) hb hb).mono ?_
                rintro e w' ⟨rfl, hg⟩
                exact ⟨by simp, hg⟩
              have NL : ∀ {w7 wb7 F7}, Wl w w7 b wb7 s6 F7 (nm (1 + 1)) ((1 + 1 : Nat) : Int) (ls.length : Int) → Calls Tryz.prog 28 #[.pointer (some ⟨b, 0, none⟩)] w7 fun e w' => ∃ ad c, e = .returned (.slice ad 1 c) ∧ w7.grownBy w' none := fun {w7 wb7 F7} h7 => by
                have := names_len b s6 F7 w7 h7.dk
                rw [hL6.cnt] at this
                exact this
              have hlq : ((ls.length : Int) == (ls.length : Int)) = true := by simp
              clear hW hL RW hRF hL5 hL6 HR HLR HOS hS
              go_wp2_with (first
                | (go_at_call 16; (with_reducible refine RS.mono ?_); rintro e w4 ⟨rfl, F4, hW4, _, _⟩; clear RS)
                | (go_at_call 27; (with_reducible refine (count_any hW4).mono ?_); rintro e w4b ⟨rfl, e4⟩; obtain rfl := e4.symm)
                | (go_at_call 18; (with_reducible refine (CR hW4).mono ?_); rintro e w5 ⟨rfl, F5, hW5⟩; clear CR)
                | (go_at_call 10; (with_reducible refine (OP2 hW5).mono ?_); rintro e w6 ⟨ad6, c6, F6, rfl, hW6, hR6⟩; clear OP2)
                | (go_at_call 20; (with_reducible refine (LS hW6 hR6).mono ?_); rintro e w7 ⟨rfl, hg7⟩; have hW7 := hW6.grown hg7; clear LS)
                | (go_at_call 28; (with_reducible refine (NL hW7).mono ?_); rintro e w8 ⟨ad8, c8, rfl, hg8⟩; clear NL))
              go_ret
              exact ⟨rfl, (hW7.grown hg8).bel⟩
end Go.Proofs.YtapdhkgeolcogaaGreatDoor
