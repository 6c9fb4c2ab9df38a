/- The reference's log: a record appended that is taken. The reference's log laid anew: its frames. The reference's log laid anew: what the frames make of the disk. -/
import Derived.Test.YtapdhkgeolcogaaGreatDoorHj
namespace Go.Proofs.YtapdhkgeolcogaaGreatDoor
open Go.RowKit Dsk Lg
set_option linter.unusedVariables false

section
variable {W w w' : World} {q rb : Nat} {s s' : St} {G G' : Nat → Prop} {c c' n last cnt : Nat}
set_option maxRecDepth 100000 in
set_option maxHeartbeats 12800000 in
theorem rapp10_ok (h : Wr W w q rb s G c n last cnt) (hc : c ≤ 999999999) (h1 : 1 ≤ n) (h2 : n ≤ 999999999) (hcnt : cnt ≤ 100000000) (a : Option Addr) (cp : Nat) (l : By) (hX : eB.Rx w (.slice a l.length cp) l) (hlo : l ≠ [] → ∀ j, (Value.slice a l.length cp).ownBlock = some j → j < W.heap.size) (hl : l.length ≤ 65536) (hE : appE s.l (nm n) (fr l).length = 0) :
    Calls Tryz.prog 13 #[.pointer (some ⟨rb, 0, none⟩), .slice a l.length cp] w fun e w' => e = .returned (.int .i64 0) ∧ ∃ G', Wr W w' q rb (appS s (nm n) (fr l)) G' (c + 1) n last (cnt + 1) ∧ (∀ k, G' k → G k ∨ w.heap.size ≤ k) ∧ Chg (Wb w rb G) w w' ∧ ∃ v', w'.cell? ⟨rb, 3, none⟩ = some v' ∧ ∀ j, v'.ownBlock = some j → Wb w rb G j ∨ w.heap.size ≤ j := by
  have FR := rframe_ok a cp l w hX hl
  have hfl := fr_le hl
  have hnl := nm_len (n := n) (by omega)
  have hzW : W.heap.size ≤ w.heap.size := h.bel.size
  have KEY : ∀ {w1 ad cc}, eB.Own w1 w.heap.size (.slice ad (fr l).length cc) (fr l) → w.grownBy w1 none → w1.drew.cell? ⟨rb, 0, none⟩ = some (.pointer (some ⟨q, 0, none⟩)) ∧ w1.drew.cell? ⟨rb, 1, none⟩ = some (.int .i64 (n : Int)) ∧ Calls Tryz.prog 26 #[.int .i64 (n : Int)] w1.drew fun e w' => e = .returned (.string ⟨(nm n).toArray⟩) ∧ w1.drew.grownBy w' none ∧ w'.cell? ⟨rb, 0, none⟩ = some (.pointer (some ⟨q, 0, none⟩)) ∧ Calls Tryz.prog 22 #[.pointer (some ⟨q, 0, none⟩), .string ⟨(nm n).toArray⟩, .slice ad (fr l).length cc] w' fun e w'' => e = .returned (.int .i64 (appE s.l (nm n) (fr l).length)) ∧ ∃ G', Wr W w'' q rb (appS s (nm n) (fr l)) G' (c + 1) n last cnt ∧ (∀ k, G' k → G k ∨ w.heap.size ≤ k) ∧ Chg G w w'' := fun {w1 ad cc} ho hg => by
    have gd : w.grownBy w1.drew none := grown_drew hg
    have hd := h.grown gd
    refine ⟨hd.c0, hd.c1, (rname_any n h1 (by omega) w1.drew).mono ?_⟩
    rintro e w' ⟨rfl, g2⟩
    have h3 := hd.grown g2
    have g03 : w.grownBy w' none := grown_more gd g2 (by simp)
    refine ⟨rfl, g2, h3.c0, (rs_app h3.rs hc (nm n) (fr l) _ (by omega) (by omega) ((ho.grown (grown_drew (grown_refl w1 none))).grown g2).rx (fun _ j hj e => by have := (ho.lt j hj).1; have := h.rs.lt j e; omega)).mono ?_⟩
    rintro e w'' ⟨rfl, G', r1, r2, r3⟩
    have hz := g03.size
    exact ⟨rfl, G', h3.disk r1 r2 r3, fun k hk => (r2 k hk).imp id fun e => by omega, (Chg.of (F := G) g03 (by simp)).trans r3 fun _ hb => .inl hb⟩
  rw [hE] at KEY
  have HLO := h.lo
  have HX : Hid (∀ {w3}, Chg G w w3 → eB.Rx w3 (.slice a l.length cp) l) := fun {w3} C => hX.kept' C fun h0 k hk e => by have := hlo h0 k hk; have := HLO k e; omega
  have HCELL : Hid (∀ {w3}, Chg G w w3 → ∀ v, w3.cell? ⟨rb, 3, none⟩ = some v → w.cell? ⟨rb, 3, none⟩ = some v) := fun {w3} C v hv => by
    obtain ⟨ad, cp2, vs, k1, _⟩ := h.c3
    rw [C.cell k1 h.nf] at hv
    rw [k1, hv]
  generalize appS s (nm n) (fr l) = s2 at *
  generalize (fr l).length = FL at *
  have hrl := h.lt
  clear h hX hE hfl hnl hlo HLO
  have HL : Hid (l.length ≤ 65536) := hl
  go_enter Tryz.func13, Tryz.ntmps13
  go_wp2_with (go_at_call 34; (with_reducible refine FR.mono ?_); rintro e w1 ⟨ad, cc, rfl, hO1, hg1⟩; obtain ⟨k0, k1, NA⟩ := KEY hO1 hg1; clear KEY hO1)
  go_region_with (first
    | (go_at_call 26; (with_reducible refine NA.mono ?_); rintro e w2 ⟨rfl, hg2, k02, AP⟩)
    | (go_at_call 22; (with_reducible refine AP.mono ?_); rintro e w3 ⟨rfl, G3, h3, hG3, hC3⟩))
  all_goals go_wp2
  all_goals
    obtain ⟨aL, cL, vs, y1, y2, y3⟩ := h3.c3
    have hz3 := hC3.size
    have yf := h3.fr 3
    have hX3 := HX.out hC3
    have y1d : w3.drew.cell? ⟨rb, 3, none⟩ = some (.slice aL cnt cL) := y1
    have hr3 : rb < w3.heap.size := h3.lt
    have hvl : vs.length = cnt := y2.len.symm
    have hE0 : eB.Own (w3.alloc (.cells #[] 5)).drew w3.heap.size (.slice (some ⟨w3.heap.size, 0, none⟩) 0 0) [] := ((Elm.made (E := eB) w3 #[] 0 _ rfl (by unfold maxLen; omega) rfl)).grown (grown_drew (grown_refl _ none))
    have hXa : eB.Rx (w3.alloc (.cells #[] 5)).drew (.slice a l.length cp) l := hX3.grown (grown_drew (World.grownBy_alloc w3 _ none))
    have K5 : ∀ {w5 : World} {a5 n5 c5}, (w3.alloc (.cells #[] 5)).drew.grownBy w5 (some w3.heap.size) → w3.grownBy w5 none ∧ w5.cell? ⟨rb, 3, none⟩ = some (.slice aL cnt cL) ∧ (∀ o, eL.Own (w5.alloc o) W.heap.size (.slice aL cnt cL) vs) ∧ (∀ o, (w5.alloc o).cell? ⟨rb, 3, none⟩ = some (.slice aL cnt cL)) ∧ (∀ o, o = Obj.cells #[.slice a5 n5 c5] 39 → eL.Rx (w5.alloc o) (.slice (some ⟨w5.heap.size, 0, none⟩) 1 1) [(a5, n5, c5)]) ∧ W.heap.size ≤ w5.heap.size := fun {w5 a5 n5 c5} g => by
      have g5 : w3.grownBy w5 none := grown_more (grown_drew (World.grownBy_alloc w3 (.cells #[] 5) none)) g (fun b e => .inr (by injection e with e; exact Nat.le_of_eq e))
      refine ⟨g5, g5.cell y1 (by simp), fun o => (y2.grown g5).grown (World.grownBy_alloc w5 o none), fun o => (World.grownBy_alloc w5 o none).cell (g5.cell y1 (by simp)) (by simp), fun o ho => Elm.rx_one fun j u hu => ?_, by have := g5.size; omega⟩
      match j, hu with
      | 0, hu => injection hu with hu; rw [← hu, ho]; exact new_at w5 rfl rfl
    have K6 : ∀ {w5 w6 : World} {a6 n6 c6 o us}, w3.grownBy w5 none → eL.Own w6 W.heap.size (.slice a6 n6 c6) us → (w5.alloc o).grownBy w6 (Value.slice aL cnt cL).ownBlock → ((Value.slice a6 n6 c6).ownBlock = (Value.slice aL cnt cL).ownBlock ∨ (Value.slice a6 n6 c6).ownBlock = some (w5.alloc o).heap.size) → us.length = cnt + 1 → w6.cell? ⟨rb, 3, none⟩ = some (.slice aL cnt cL) ∧ (∀ i, w6.frozen? ⟨rb, i, none⟩ = false) ∧ Wr W (w6.setCell ⟨rb, 3, none⟩ (.slice a6 n6 c6)) q rb s2 G3 (c + 1) n last (cnt + 1) ∧ Chg (Wb w rb G) w (w6.setCell ⟨rb, 3, none⟩ (.slice a6 n6 c6)) ∧ ∃ v', (w6.setCell ⟨rb, 3, none⟩ (.slice a6 n6 c6)).cell? ⟨rb, 3, none⟩ = some v' ∧ ∀ j, v'.ownBlock = some j → Wb w rb G j ∨ w.heap.size ≤ j := fun {w5 w6 a6 n6 c6 o us} g5 ho g6 hb hu => by
      obtain rfl : n6 = cnt + 1 := by rw [← hu]; exact ho.len
      have g36 : w3.grownBy w6 (Value.slice aL cnt cL).ownBlock := grown_more ((grown_alloc g5 o).but _) g6 (fun _ e => .inl e)
      have C36 : Chg (fun k => (Value.slice aL cnt cL).ownBlock = some k) w3 w6 := Chg.of g36 fun k hk => hk
      have nrb : ¬ (Value.slice aL cnt cL).ownBlock = some rb := fun e => (y3 rb e).2 rfl
      obtain ⟨r1, r2⟩ := h3.list y1 y2 y3 g36 ho (hb.imp id fun e => ⟨_, e, by have := g5.size; simp; omega⟩)
      refine ⟨C36.cell y1 nrb, fun i => (C36.frozen (a := ⟨rb, i, none⟩) hr3 nrb).trans (h3.fr i), r1, ?_, _, set_same (C36.cell y1 nrb), fun j hj => ?_⟩
      rotate_left
      · rcases hb with e | e
        · exact .inl (.inr (.inr ⟨_, HCELL.out hC3 _ y1, by rw [← e]; exact hj⟩))
        · rw [e] at hj
          injection hj with hj
          have := g5.size
          have := hC3.size
          simp at hj
          exact .inr (by omega)
      refine (hC3.wide fun k hk => .inl hk).trans r2 fun b hb => ?_
      rcases hb with e | e | ⟨v, e1, e2⟩
      · exact (hG3 b e).imp .inl id
      · exact .inl (.inr (.inl e))
      · exact .inl (.inr (.inr ⟨v, HCELL.out hC3 v e1, e2⟩))
    clear h3 y2 y3 hX3 AP NA
    go_region_law (first
      | (refine step_of rfl (Elm.wp_append (E := eB) (.tmp 32) (.tmp 33) rfl w3.heap.size _ [] rfl hE0 _ l rfl hXa (by have := HL.out; simp; omega) (by have := HL.out; simp; show l.length * 1 ≤ _; omega) (by simp) ?_); intro a5 n5 c5 w5 hO5 hg5 hl5; obtain ⟨z5, z1, z2, z3, z4, z6⟩ := K5 (a5 := a5) (n5 := n5) (c5 := c5) hg5)
      | (refine step_of rfl (Elm.wp_append (E := eL) (.tmp 31) (.tmp 35) rfl W.heap.size _ vs rfl (z2 _) _ [(a5, n5, c5)] rfl (z4 _ rfl) (by simp; omega) (by show (vs.length + 1) * 24 ≤ _; omega) (by simp; omega) ?_); intro a6 n6 c6 w6 hO6 hg6 hl6; obtain ⟨x1, x2, x3, x4, x5⟩ := K6 z5 hO6 hg6 hl6 (by simp; omega); have x23 := x2 3))
    all_goals go_wp2
    all_goals go_ret
    all_goals exact ⟨rfl, G3, x3, hG3, x4, x5⟩
end
end Go.Proofs.YtapdhkgeolcogaaGreatDoor
namespace Go.Proofs.YtapdhkgeolcogaaGreatDoor
open Go.RowKit Dsk Lg
set_option linter.unusedVariables false

/-- A byte string of its own put behind a list of such. -/
theorem Gat.push {w wr w2 w4 : World} {ad ay ad4 : Option Addr} {N cd n4 c4 cy : Nat} {done : List By} {y : By} {vs : List S3} {o : Obj} (hO : eL.Own wr w.heap.size (.slice ad N cd) vs) (hE : Each wr vs done (fun k => w.heap.size ≤ k ∧ k < wr.heap.size ∧ (Value.slice ad N cd).ownBlock ≠ some k)) (hz : w.heap.size ≤ wr.heap.size) (hg2 : wr.grownBy w2 none) (hY : eB.Own w2 wr.heap.size (.slice ay y.length cy) y)
    (hO4 : eL.Own w4 w.heap.size (.slice ad4 n4 c4) (vs ++ [(ay, y.length, cy)])) (hg4 : (w2.alloc o).grownBy w4 (Value.slice ad N cd).ownBlock) (hl4 : (Value.slice ad4 n4 c4).ownBlock = (Value.slice ad N cd).ownBlock ∨ (Value.slice ad4 n4 c4).ownBlock = some (w2.alloc o).heap.size) :
    n4 = (done ++ [y]).length ∧ Gat w w4 (.slice ad4 n4 c4) (done ++ [y]) ∧ wr.grownBy w4 (Value.slice ad N cd).ownBlock := by
  have hz2 := hg2.size
  have hvl := hE.1
  have hg24 : w2.grownBy w4 (Value.slice ad N cd).ownBlock := grown_more ((World.grownBy_alloc w2 o none).but _) hg4 (fun _ e => .inl e)
  have hz4 := hg24.size
  have hz4' : w2.heap.size + 1 ≤ w4.heap.size := by have := hg4.size; simpa using this
  have hva : ∀ k, (Value.slice ad N cd).ownBlock = some k → w.heap.size ≤ k ∧ k < wr.heap.size := fun k hk => hO.lt k hk
  refine ⟨by have := hO4.len; simp at this ⊢; omega, ⟨_, hO4, ?_⟩, grown_more (hg2.but _) hg24 (fun _ e => .inl e)⟩
  refine Each.snoc ?_ ?_ ?_
  · refine ((hE.grown hg2).kept (F := fun k => (Value.slice ad N cd).ownBlock = some k) (Chg.of hg24 fun k hk => hk) fun k hk => hk.2.2).wide fun k hk => ⟨hk.1, by omega, fun e => ?_⟩
    rcases hl4 with h5 | h5
    · rw [h5] at e; exact hk.2.2 e
    · rw [h5] at e; injection e with e; simp at e; omega
  · exact (hY.kept (F := fun k => (Value.slice ad N cd).ownBlock = some k) (Chg.of hg24 fun k hk => hk) fun k hk e => by have h6 := (hY.lt k hk).1; have h7 := (hva k e).2; omega).rx
  · intro _ k hk
    have h6 := hY.lt k hk
    refine ⟨by omega, by omega, fun e => ?_⟩
    rcases hl4 with h5 | h5
    · rw [h5] at e; have h7 := (hva k e).2; omega
    · rw [h5] at e; injection e with e; simp at e; omega
theorem rput_num (n : Nat) (hn : n ≤ 1000000000) (w : World) : Calls Tryz.prog 42 #[.slice none 0 0, .int .u64 (n : Int)] w fun e w' => ∃ ad c, e = .returned (.slice ad (num n).length c) ∧ eB.Own w' w.heap.size (.slice ad (num n).length c) (num n) ∧ w.grownBy w' none := by
  refine (Cd.put_any (.slice none 0 0) [] n (by omega) w.heap.size w (Cd.own_nil w) (Nat.le_refl _) (by simp)).mono ?_
  rintro e w' ⟨v', rfl, hE⟩
  have ho := hE.own
  rw [List.nil_append] at ho
  have h1 := cd_own ho
  obtain ⟨ad, cc, e⟩ := Elm.form h1
  have hlen : iB (Cd.Code.put n) = num n := rfl
  rw [hlen] at h1 e
  subst e
  exact ⟨ad, cc, rfl, h1, by have := hE.grown; simpa [Value.ownBlock] using this⟩
set_option maxRecDepth 100000 in
set_option maxHeartbeats 12800000 in
theorem rlay_long {W w : World} {q rb : Nat} {s : St} {G : Nat → Prop} {c n last cnt : Nat} (h : Wr W w q rb s G c n last cnt) (v : Value) (ls : List By) {R : Nat → Prop} (hR : Rl w v ls R) (hn : ls.length ≤ 1048576) (hL : long ls = true) :
    Calls Tryz.prog 17 #[.pointer (some ⟨rb, 0, none⟩), v] w fun e w' => e = .returned (.int .i64 1) ∧ w.grownBy w' none := by
  obtain ⟨a1, c1, rfl⟩ := hR.form
  have PT := rput_num ls.length (by omega) w
  have HR : Hid (Rl w (.slice a1 ls.length c1) ls R) := hR
  have hcv : IntKind.u64.wrap (ls.length : Int) = (ls.length : Int) := by rw [IntKind.wrap_u64]; omega
  have hnum := num_len (n := ls.length) (by omega)
  have FH : ∀ {w1 : World} {ad cc}, eB.Own w1 w.heap.size (.slice ad (num ls.length).length cc) (num ls.length) → Calls Tryz.prog 34 #[.slice ad (num ls.length).length cc] w1 fun e w' => ∃ ad c, e = .returned (.tuple #[.slice ad (fr (num ls.length)).length c, .int .i64 0]) ∧ eB.Own w' w1.heap.size (.slice ad (fr (num ls.length)).length c) (fr (num ls.length)) ∧ w1.grownBy w' none := fun {w1 ad cc} ho => rframe_ok ad cc (num ls.length) w1 ho.rx (by omega)
  have HLG : Hid (∃ l ∈ ls, 65536 < l.length) := by
    unfold long at hL
    rw [List.any_eq_true] at hL
    obtain ⟨l, h1, h2⟩ := hL
    exact ⟨l, h1, by simpa using h2⟩
  clear h hR hL
  generalize hY : fr (num ls.length) = Y at *
  have HY : Hid (fr (num ls.length) = Y) := hY
  have hYl : (Y.length : Int) ≤ 100 := by have := fr_le (l := num ls.length) (by omega); rw [hY] at this; omega
  generalize (num ls.length).length = NL at *
  clear hY
  go_enter Tryz.func17, Tryz.ntmps17
  go_wp2_with (first
    | (go_at_call 42; (with_reducible refine PT.mono ?_); rintro e w1 ⟨ad1, cc1, rfl, hO1, hg1⟩)
    | (go_at_call 34; (with_reducible refine (FH hO1).mono ?_); rintro e w2 ⟨ad2, cc2, rfl, hO2, hg2⟩; have hz2 := hg2.size; have hz1 := hg1.size; have hX2 : ∀ o, o = Obj.cells #[.slice ad2 Y.length cc2] 39 → eL.Rx (w2.alloc o) (.slice (some ⟨w2.heap.size, 0, none⟩) 1 1) [(ad2, Y.length, cc2)] := (fun o ho => Elm.rx_one fun j u hu => (by
            match j, hu with
            | 0, hu => injection hu with hu; rw [← hu, ho]; exact new_at w2 rfl rfl)); have hN2 : ∀ W2 : World, eL.Own W2 w.heap.size (.slice none 0 0) [] := fun W2 => Elm.nil _ _)
    | (at_builtin; refine Elm.wpList_append (E := eL) rfl (.tmp 20) (.tmp 22) rfl w.heap.size (.slice none 0 0) [] rfl (hN2 _) _ [(ad2, Y.length, cc2)] rfl (hX2 _ rfl) (by simp) (by show (0 + 1) * 24 ≤ _; omega) (by simp; omega) ?_; intro ad3 n3 c3 w3 hO3 hg3 hl3))
  obtain ⟨hn3, hG3, hgg3⟩ := Gat.push (w := w) (wr := w1) (hN2 w1) (Each.nil _ _) hz1 hg2 hO2 hO3 hg3 hl3
  obtain rfl : n3 = 1 := hn3
  have hg03 : w.grownBy w3 none := grown_more hg1 hgg3 (fun b e => by simp [Value.ownBlock] at e)
  have hG3' : Gat w w3 (.slice ad3 1 c3) [Y] := hG3
  clear PT FH hO1 hg1 hO2 hg2 hX2 hN2 hO3 hg3 hl3 hgg3 hG3 hz1 hz2
  go_loopw [5, 8] (fun f i wr => ∃ (k : Nat) (ad : Option Addr) (cd : Nat), k ≤ ls.length ∧ i = .int .i64 (k : Int) ∧ f = .slice ad (k + 1) cd ∧ Gat w wr (.slice ad (k + 1) cd) (Y :: (ls.take k).map fr) ∧ w.grownBy wr none ∧ Hid (∀ l ∈ ls.take k, l.length ≤ 65536)) (fun _ i _ => ls.length - (intOf i).toNat)
  case atStart => exact ⟨0, ad3, c3, Nat.zero_le _, rfl, rfl, hG3', hg03, by show ∀ l ∈ _, _; simp⟩
  case round =>
    obtain ⟨k, ad, cd, hk, rfl, rfl, hG, hg, HF⟩ := hrel
    clear hG3' hg03
    by_cases hlt : k < ls.length
    · have hlti : (k : Int) < (ls.length : Int) := by omega
      obtain ⟨vs, x1, x2, x3⟩ := HR.out.grown hg
      obtain ⟨p, l, hp, hl, hpl⟩ := x2.at_ hlt
      obtain ⟨g, o, cc, ev, hcell⟩ := x1.at_ hp
      injection ev with e1 e2 e3
      subst e1 e3
      clear e2
      have hcx : wr.cell? ⟨g, o + k, none⟩ = some (.slice p.1 p.2.1 p.2.2) := by
        have := hcell 0 _ rfl
        have e : eL.size = 1 := rfl
        rw [e, Nat.mul_one, Nat.add_zero] at this
        exact this
      obtain ⟨pa, pc, hpf⟩ := hpl.form
      obtain ⟨p1, p2, p3⟩ := p
      simp only [sv] at hpf hpl hcx
      injection hpf with f1 f2 f3
      subst f1 f2 f3
      have HLK : Hid (ls[k]? = some l) := hl
      clear hcell x1 x2 x3 hp hl
      by_cases hlg : 65536 < l.length
      · have FL := Cd.refFrame_long wr p1 l.length p3 (by omega)
        have hd : (1 : Int) = 1 := rfl
        clear hG
        go_wp2_with (go_at_call 34; (with_reducible refine FL.mono ?_); rintro e w5 ⟨rfl, rfl⟩)
        go_ret
        exact ⟨rfl, hg⟩
      · have FR := rframe_ok p1 p3 l wr hpl (by omega)
        have HT : Hid ((ls.take (k + 1)).map fr = (ls.take k).map fr ++ [fr l]) := by show _ = _; rw [List.take_add_one, HLK.out]; simp
        have HF2 : Hid (∀ x ∈ ls.take (k + 1), x.length ≤ 65536) := by
          show ∀ x ∈ _, _
          rw [List.take_add_one, HLK.out]
          intro x hx
          rcases List.mem_append.1 hx with e | e
          · exact HF.out x e
          · simp at e; rw [e]; omega
        obtain ⟨us, hO, hE⟩ : Ro wr w.heap.size (.slice ad (k + 1) cd) (Y :: (ls.take k).map fr) (fun j => w.heap.size ≤ j ∧ j < wr.heap.size ∧ (Value.slice ad (k + 1) cd).ownBlock ≠ some j) := hG
        have hul : us.length = k + 1 := hO.len.symm
        have HE : Hid (Each wr us (Y :: (ls.take k).map fr) (fun j => w.heap.size ≤ j ∧ j < wr.heap.size ∧ (Value.slice ad (k + 1) cd).ownBlock ≠ some j)) := hE
        have hzr := hg.size
        have hva : ∀ j, (Value.slice ad (k + 1) cd).ownBlock = some j → w.heap.size ≤ j ∧ j < wr.heap.size := fun j hj => hO.lt j hj
        clear hE hpl
        go_wp2_with (first
          | (go_at_call 34; (with_reducible refine FR.mono ?_); rintro e w5 ⟨ay, cy, rfl, hY5, hg5⟩; have hz5 := hg5.size; have hO5 : ∀ o, eL.Own (w5.alloc o) w.heap.size (.slice ad (k + 1) cd) us := (fun o => (hO.grown hg5).grown (World.grownBy_alloc w5 o none)); have hX5 : ∀ o, o = Obj.cells #[.slice ay (fr l).length cy] 39 → eL.Rx (w5.alloc o) (.slice (some ⟨w5.heap.size, 0, none⟩) 1 1) [(ay, (fr l).length, cy)] := (fun o ho => Elm.rx_one fun j u hu => (by
                match j, hu with
                | 0, hu => injection hu with hu; rw [← hu, ho]; exact new_at w5 rfl rfl)))
          | (at_builtin; refine Elm.wpList_append (E := eL) rfl (.tmp 40) (.tmp 42) rfl w.heap.size _ us rfl (hO5 _) _ [(ay, (fr l).length, cy)] rfl (hX5 _ rfl) (by simp; omega) (by show (us.length + 1) * 24 ≤ _; omega) (by simp; omega) ?_; intro ad6 n6 c6 w6 hO6 hg6 hl6))
        obtain ⟨h6, hG6, hg56⟩ := Gat.push hO HE.out hzr hg5 hY5 hO6 hg6 hl6
        obtain rfl : n6 = k + 1 + 1 := by rw [h6]; simp; omega
        go_roundw
        case rel => exact ⟨k + 1, ad6, c6, by omega, by go_num, rfl, by rw [HT.out]; exact hG6, grown_more hg hg56 (fun b e => .inr (hva b e).1), HF2⟩
        case measure => simp [intOf]; omega
    · obtain rfl : k = ls.length := by omega
      exfalso
      obtain ⟨l, h1, h2⟩ := HLG.out
      have := HF.out l (by rw [List.take_length]; exact h1)
      omega
end Go.Proofs.YtapdhkgeolcogaaGreatDoor
namespace Go.Proofs.YtapdhkgeolcogaaGreatDoor
open Go.RowKit Dsk Lg
set_option linter.unusedVariables false

namespace Lg
theorem putE_fit {s : St} {x l : By} (h : l.length ≤ 65536) : (putE s x l = 0 ↔ appE s.l x (fr l).length = 0) ∧ putS s x l = appS s x (fr l) := by
  have hn : ¬ 65536 < l.length := by omega
  refine ⟨⟨fun e => ?_, fun e => ?_⟩, ?_⟩
  · unfold putE at e
    rw [if_neg hn] at e
    split at e
    · assumption
    · cases e
  · unfold putE
    rw [if_neg hn, if_pos e]
  · unfold putS
    rw [if_neg hn]
theorem appS_has {s : St} {x l : By} (h : appE s.l x l.length = 0) : has (appS s x l).l x = true := by
  unfold appS
  rw [if_pos h]
  by_cases hh : has s.l x = true
  · rw [if_pos hh]
    simp only
    rw [has_setF]
    exact hh
  · rw [if_neg hh]
    simp only
    rw [has_app, has_one, Bool.or_true]
theorem appS_keeps {s : St} {x y l : By} (h : has s.l x = true) : has (appS s y l).l x = true := by
  unfold appS
  split
  · split
    · simp only
      rw [has_setF]
      exact h
    · simp only
      rw [has_app, h, Bool.true_or]
  · exact h
theorem layF_keeps (x : By) : ∀ (ls : List By) (s : St), has s.l x = true → has (layF s x ls).1.l x = true
  | [], s, h => h
  | l :: ls, s, h => by
    unfold layF
    split
    · refine layF_keeps x ls _ ?_
      unfold putS
      split
      · exact h
      · exact appS_keeps h
    · exact h
theorem layS_all {s : St} {x : By} {ls : List By} (h : (layF s x (num ls.length :: ls)).2 = true) (hn : ls.length ≤ 1000000000) : layS s x ls = (syncS (layF s x (num ls.length :: ls)).1 x, true) := by
  unfold layS
  rw [if_pos h]
  have hnum := num_len (n := ls.length) (by omega)
  have hE : putE s x (num ls.length) = 0 := by
    unfold layF at h
    split at h
    · assumption
    · cases h
  have h1 : has (layF s x (num ls.length :: ls)).1.l x = true := by
    unfold layF
    rw [if_pos hE]
    refine layF_keeps x ls _ ?_
    rw [(putE_fit (by omega)).2]
    exact appS_has ((putE_fit (by omega)).1.1 hE)
  have : hasE (layF s x (num ls.length :: ls)).1.l x = 0 := by unfold hasE; rw [if_pos h1]
  rw [this]
  simp
theorem layS_not {s : St} {x : By} {ls : List By} (h : (layF s x (num ls.length :: ls)).2 = false) : (layS s x ls).2 = false := by
  unfold layS
  rw [if_neg (by rw [h]; simp)]
theorem layF_step {s : St} {x l : By} {ls : List By} (hl : l.length ≤ 65536) : layF s x (l :: ls) = if appE s.l x (fr l).length = 0 then layF (appS s x (fr l)) x ls else (s, false) := by
  rw [layF]
  by_cases h : appE s.l x (fr l).length = 0
  · rw [if_pos h, if_pos ((putE_fit hl).1.2 h), (putE_fit hl).2]
  · rw [if_neg h, if_neg (fun e => h ((putE_fit hl).1.1 e))]
end Lg
section
variable {W w : World} {q rb : Nat} {s : St} {G : Nat → Prop} {c n last cnt : Nat}
/-- The last number stored; the file's number stored. -/
theorem Wr.setLast (h : Wr W w q rb s G c n last cnt) (m : Nat) : Wr W (w.setCell ⟨rb, 2, none⟩ (.int .i64 (m : Int))) q rb s G c n m cnt := by
  obtain ⟨ad, cp, vs, k1, k2, k3⟩ := h.c3
  have S := chg_set w ⟨rb, 2, none⟩ (.int .i64 (m : Int))
  exact ⟨h.rs.kept S fun k hk e => h.nf (by rw [e] at hk; exact hk), h.lo, Chg.low h.bel S fun k hk => by rw [hk]; exact h.wlo, (set_other (by simp)).trans h.c0, (set_other (by simp)).trans h.c1, set_same h.c2, ⟨ad, cp, vs, (set_other (by simp)).trans k1, k2.kept S (fun j hj e => (k3 j hj).2 e), k3⟩, fun i => (World.frozen?_setCell _ _ _ _).trans (h.fr i), h.nf, h.wlo⟩
theorem Wr.setN (h : Wr W w q rb s G c n last cnt) (m : Nat) : Wr W (w.setCell ⟨rb, 1, none⟩ (.int .i64 (m : Int))) q rb s G c m last cnt := by
  obtain ⟨ad, cp, vs, k1, k2, k3⟩ := h.c3
  have S := chg_set w ⟨rb, 1, none⟩ (.int .i64 (m : Int))
  exact ⟨h.rs.kept S fun k hk e => h.nf (by rw [e] at hk; exact hk), h.lo, Chg.low h.bel S fun k hk => by rw [hk]; exact h.wlo, (set_other (by simp)).trans h.c0, set_same h.c1, (set_other (by simp)).trans h.c2, ⟨ad, cp, vs, (set_other (by simp)).trans k1, k2.kept S (fun j hj e => (k3 j hj).2 e), k3⟩, fun i => (World.frozen?_setCell _ _ _ _).trans (h.fr i), h.nf, h.wlo⟩
/-- A list that was made since w lies apart from the disk that was there. -/
theorem Gat.apt {wr : World} {v : Value} {ls : List By} (h : Gat w wr v ls) (hG : ∀ k, G k → k < w.heap.size) : Apt w wr wr.heap.size G v ls := by
  have h' : Ro wr w.heap.size v ls (fun k => w.heap.size ≤ k ∧ k < wr.heap.size ∧ v.ownBlock ≠ some k) := h
  exact ⟨h'.wide fun k hk => ⟨fun e => by have := hG k e; omega, hk.2.1⟩, fun j hj => ⟨fun e => by have := hG j e; have := (h'.lt j hj).1; omega, (h'.lt j hj).2⟩⟩
end
end Go.Proofs.YtapdhkgeolcogaaGreatDoor
