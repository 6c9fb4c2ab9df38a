/- The reference's log laid anew: the walk. -/
import Derived.Test.YtapdhkgeolcogaaGreatDoorHk
import Derived.Deep.RegionHeld3
namespace Go.Proofs.YtapdhkgeolcogaaGreatDoor
open Go.RowKit Dsk Lg
set_option linter.unusedVariables false

/-- The blocks that a log laid anew may turn. -/
def Wc (rb : Nat) (G : Nat → Prop) (k : Nat) : Prop := G k ∨ k = rb
section
variable {W w w9 : World} {q rb : Nat} {s : St} {G G9 : Nat → Prop} {c n last cnt : Nat}
/-- A file synced, a file removed, by its number. -/
theorem rlay_sync (h : Wr W w9 q rb s G9 c n last cnt) (hc : c ≤ 1000000000) (m : Nat) (h1 : 1 ≤ m) (h2 : m ≤ 999999999) (hG : ∀ k, G9 k → G k ∨ w.heap.size ≤ k) (hC : Chg (Wc rb G) w w9) :
    Calls Tryz.prog 26 #[.int .i64 (m : Int)] w9.drew fun e w' => e = .returned (.string ⟨(nm m).toArray⟩) ∧ w'.cell? ⟨rb, 0, none⟩ = some (.pointer (some ⟨q, 0, none⟩)) ∧ w'.cell? ⟨rb, 1, none⟩ = some (.int .i64 (n : Int)) ∧ w'.cell? ⟨rb, 2, none⟩ = some (.int .i64 (last : Int)) ∧
      Calls Tryz.prog 36 #[.pointer (some ⟨q, 0, none⟩), .string ⟨(nm m).toArray⟩] w' fun e w'' => ∃ E9 G', e = .returned (.int .i64 E9) ∧ Wr W w'' q rb (syncS s (nm m)) G' c n last cnt ∧ (∀ k, G' k → G k ∨ w.heap.size ≤ k) ∧ Chg (Wc rb G) w w'' := by
  have gd : w9.grownBy w9.drew none := grown_drew (grown_refl w9 none)
  refine (rname_any m h1 (by omega) w9.drew).mono ?_
  rintro e w' ⟨rfl, g2⟩
  have g3 : w9.grownBy w' none := grown_more gd g2 (by simp)
  have h3 := h.grown g3
  have hz := hC.size
  have hz3 := g3.size
  refine ⟨rfl, h3.c0, h3.c1, h3.c2, (rs_sync h3.rs hc (nm m)).mono ?_⟩
  rintro e w'' ⟨rfl, G', r1, r2, r3⟩
  refine ⟨_, G', rfl, h3.disk r1 r2 r3, fun k hk => (r2 k hk).elim (hG k) fun e => .inr (by omega), (hC.trans (Chg.of (F := Wc rb G) g3 (by simp)) fun _ hb => .inl hb).trans r3 fun b hb => (hG b hb).imp .inl id⟩
theorem rlay_rem (h : Wr W w9 q rb s G9 c n last cnt) (hc : c ≤ 1000000000) (m : Nat) (h1 : 1 ≤ m) (h2 : m ≤ 999999999) (hG : ∀ k, G9 k → G k ∨ w.heap.size ≤ k) (hC : Chg (Wc rb G) w w9) :
    Calls Tryz.prog 26 #[.int .i64 (m : Int)] w9.drew fun e w' => e = .returned (.string ⟨(nm m).toArray⟩) ∧ w'.cell? ⟨rb, 0, none⟩ = some (.pointer (some ⟨q, 0, none⟩)) ∧ w'.cell? ⟨rb, 1, none⟩ = some (.int .i64 (n : Int)) ∧ w'.cell? ⟨rb, 2, none⟩ = some (.int .i64 (last : Int)) ∧
      Calls Tryz.prog 32 #[.pointer (some ⟨q, 0, none⟩), .string ⟨(nm m).toArray⟩] w' fun e w'' => ∃ E9 G', e = .returned (.int .i64 E9) ∧ Wr W w'' q rb (remS s (nm m)) G' c n last cnt ∧ (∀ k, G' k → G k ∨ w.heap.size ≤ k) ∧ Chg (Wc rb G) w w'' := by
  have gd : w9.grownBy w9.drew none := grown_drew (grown_refl w9 none)
  refine (rname_any m h1 (by omega) w9.drew).mono ?_
  rintro e w' ⟨rfl, g2⟩
  have g3 : w9.grownBy w' none := grown_more gd g2 (by simp)
  have h3 := h.grown g3
  have hz := hC.size
  have hz3 := g3.size
  refine ⟨rfl, h3.c0, h3.c1, h3.c2, (rs_rem h3.rs hc (nm m)).mono ?_⟩
  rintro e w'' ⟨rfl, G', r1, r2, r3⟩
  refine ⟨_, G', rfl, h3.disk r1 r2 r3, fun k hk => (r2 k hk).elim (hG k) fun e => .inr (by omega), (hC.trans (Chg.of (F := Wc rb G) g3 (by simp)) fun _ hb => .inl hb).trans r3 fun b hb => (hG b hb).imp .inl id⟩
/-- Behind the frames: the file's number and the list stored. -/
theorem rlay_end {v : Value} {ls : List By} {R : Nat → Prop} (h : Wr W w9 q rb s G9 c n last cnt) (hR : Rl w v ls R) (hRW : ∀ k, R k → ¬ Wc rb G k) (hC : Chg (Wc rb G) w w9) (hG : ∀ k, G9 k → G k ∨ w.heap.size ≤ k) (z : Int) (hz0 : z = (last : Int)) :
    ∃ vs, eL.Own ((w9.setCell ⟨rb, 1, none⟩ (.int .i64 z)).alloc (.cells #[] 39)) W.heap.size (.slice (some ⟨w9.heap.size, 0, none⟩) 0 0) [] ∧ eL.Rx ((w9.setCell ⟨rb, 1, none⟩ (.int .i64 z)).alloc (.cells #[] 39)) v vs ∧ vs.length = ls.length ∧ W.heap.size ≤ w9.heap.size ∧
      ∀ {w6 : World} {a6 n6 c6}, eL.Own w6 W.heap.size (.slice a6 n6 c6) vs → ((w9.setCell ⟨rb, 1, none⟩ (.int .i64 z)).alloc (.cells #[] 39)).grownBy w6 (some w9.heap.size) → ((Value.slice a6 n6 c6).ownBlock = some w9.heap.size ∨ (Value.slice a6 n6 c6).ownBlock = some ((w9.setCell ⟨rb, 1, none⟩ (.int .i64 z)).alloc (.cells #[] 39)).heap.size) →
        (∃ u, w6.cell? ⟨rb, 3, none⟩ = some u) ∧ w6.frozen? ⟨rb, 3, none⟩ = false ∧ Wr W (w6.setCell ⟨rb, 3, none⟩ (.slice a6 n6 c6)) q rb s G9 c last last ls.length ∧ Chg (Wc rb G) w (w6.setCell ⟨rb, 3, none⟩ (.slice a6 n6 c6)) ∧ Rl (w6.setCell ⟨rb, 3, none⟩ (.slice a6 n6 c6)) (.slice a6 n6 c6) ls (fun k => R k ∨ w.heap.size ≤ k) ∧ (w6.setCell ⟨rb, 3, none⟩ (.slice a6 n6 c6)).cell? ⟨rb, 3, none⟩ = some (.slice a6 n6 c6) ∧ ∀ j, (Value.slice a6 n6 c6).ownBlock = some j → w.heap.size ≤ j := by
  subst hz0
  obtain ⟨vs, x1, x2, x3⟩ := hR
  have S1 := chg_set w9 ⟨rb, 1, none⟩ (.int .i64 (last : Int))
  have hB := h.setN last
  have hzW : W.heap.size ≤ w9.heap.size := h.bel.size
  have hz : w.heap.size ≤ w9.heap.size := hC.size
  have CB : Chg (Wc rb G) w (w9.setCell ⟨rb, 1, none⟩ (.int .i64 (last : Int))) := hC.trans S1 fun b hb => .inl (.inr hb)
  have hzB : (w9.setCell ⟨rb, 1, none⟩ (.int .i64 (last : Int))).heap.size = w9.heap.size := by simp
  generalize w9.setCell ⟨rb, 1, none⟩ (.int .i64 (last : Int)) = wB at *
  have ga := World.grownBy_alloc wB (.cells #[] 39) none
  have CA := CB.trans (Chg.of (F := Wc rb G) ga (by simp)) fun _ hb => .inl hb
  refine ⟨vs, ((Elm.made (E := eL) wB #[] 0 _ hzB.symm (by unfold maxLen; omega) rfl)).low hzW, x1.kept' CA (fun h0 k hk => hRW k (x3 h0 k hk)), x2.1, hzW, ?_⟩
  intro w6 a6 n6 c6 hO hg hb
  obtain rfl : n6 = ls.length := by rw [← x2.1]; exact hO.len
  have g6 : wB.grownBy w6 none := grown_more ga hg (fun b e => .inr (by injection e with e; omega))
  obtain ⟨ad, cp, us, k1, k2, k3⟩ := hB.c3
  have hnew : ∃ j, (Value.slice a6 ls.length c6).ownBlock = some j ∧ wB.heap.size ≤ j := by
    rcases hb with e | e
    · exact ⟨_, e, by omega⟩
    · exact ⟨_, e, by simp⟩
  obtain ⟨r1, _⟩ := hB.list k1 k2 k3 (g6.but _) hO (.inr hnew)
  have C6 : Chg (Wc rb G) w w6 := CB.trans (Chg.of (F := Wc rb G) g6 (by simp)) fun _ hb => .inl hb
  have S6 := chg_set w6 ⟨rb, 3, none⟩ (.slice a6 ls.length c6)
  have C7 := C6.trans S6 fun b hb => .inl (.inr hb)
  have hlt := hB.lt
  have hne : ∀ k, (Value.slice a6 ls.length c6).ownBlock = some k → ¬ k = rb := fun k hk e => by
    obtain ⟨j, hj, hj2⟩ := hnew
    rw [hj] at hk
    injection hk with hk
    omega
  refine ⟨⟨_, g6.cell k1 (by simp)⟩, ((Chg.of (F := fun _ => False) g6 (by simp)).frozen (a := ⟨rb, 3, none⟩) hlt id).trans (hB.fr 3), r1, C7, ⟨vs, (hO.kept S6 hne).rx, (x2.kept C7 hRW).wide fun k hk => .inl hk, fun _ k hk => .inr ?_⟩, set_same (g6.cell k1 (by simp)), fun k hk => ?_⟩
  all_goals
    obtain ⟨j, hj, hj2⟩ := hnew
    rw [hj] at hk
    injection hk with hk
    omega
end
/-- A list's element. -/
theorem Apt.at2 {W w : World} {S : Nat} {F : Nat → Prop} {ls : List By} {a : Option Addr} {n c : Nat} (h : Apt W w S F (.slice a n c) ls) {k : Nat} {l : By} (hk : ls[k]? = some l) : ∃ g o pa pc, a = some ⟨g, o, none⟩ ∧ w.cell? ⟨g, o + k, none⟩ = some (.slice pa l.length pc) ∧ eB.Rx w (.slice pa l.length pc) l ∧ (l ≠ [] → ∀ j, (Value.slice pa l.length pc).ownBlock = some j → ¬ F j ∧ j < S) := by
  obtain ⟨vs, hO, hE⟩ := h.ro
  have hkl := (List.getElem?_eq_some_iff.1 hk).1
  obtain ⟨p, l', hp, hl', hx⟩ := hE.at_ hkl
  rw [hk] at hl'
  injection hl' with hl'
  subst hl'
  obtain ⟨g', o', c', e, hc⟩ := hO.rx.at_ hp
  injection e with e1 e2 e3
  have h4 := hc 0 (sv p) rfl
  have e : eL.size = 1 := rfl
  rw [e, Nat.mul_one, Nat.add_zero] at h4
  obtain ⟨pa, pc, hpf⟩ := hx.form
  rw [hpf] at h4 hx
  exact ⟨g', o', pa, pc, e1, h4, hx, fun h0 j hj => (hE.2 k p l hp hk).2 h0 j (by rw [hpf]; exact hj)⟩
set_option maxRecDepth 100000 in
set_option maxHeartbeats 12800000 in
theorem rlay_fit {W w : World} {q rb : Nat} {s : St} {G : Nat → Prop} {c n last cnt : Nat} (h : Wr W w q rb s G c n last cnt) (v : Value) (ls : List By) {R : Nat → Prop} (hR : Rl w v ls R) (hRW : ∀ k, R k → ¬ Wc rb G k) (hn : ls.length ≤ 1048576) (hL : long ls = false) (hc : c + ls.length + 1 ≤ 999999999) (hla : last ≤ 999999999) (hnn : n ≤ 999999999) {T : St} (hT : T = if n = 0 then (layS s (nm (last + 1)) ls).1 else remS (layS s (nm (last + 1)) ls).1 (nm n)) :
    Calls Tryz.prog 17 #[.pointer (some ⟨rb, 0, none⟩), v] w fun e w' => (e = .returned (.int .i64 3) ∧ Below W.heap.size W w' ∧ (last = 999999999 ∨ (layS s (nm (last + 1)) ls).2 = false)) ∨
      (e = .returned (.int .i64 0) ∧ last ≠ 999999999 ∧ (layS s (nm (last + 1)) ls).2 = true ∧ ∃ G', Wr W w' q rb T G' (c + ls.length + 1) (last + 1) (last + 1) ls.length ∧ (∀ k, G' k → G k ∨ w.heap.size ≤ k) ∧ Chg (Wc rb G) w w' ∧ ∃ v', w'.cell? ⟨rb, 3, none⟩ = some v' ∧ Rl w' v' ls (fun k => R k ∨ w.heap.size ≤ k) ∧ ∀ j, v'.ownBlock = some j → w.heap.size ≤ j) := by
  obtain ⟨a1, c1, rfl⟩ := hR.form
  have PT := rput_num ls.length (by omega) w
  have HR : Hid (Rl w (.slice a1 ls.length c1) ls R) := hR
  have hcv : IntKind.u64.wrap (ls.length : Int) = (ls.length : Int) := by rw [IntKind.wrap_u64]; omega
  have hnum := num_len (n := ls.length) (by omega)
  have FH : ∀ {w1 : World} {ad cc}, eB.Own w1 w.heap.size (.slice ad (num ls.length).length cc) (num ls.length) → Calls Tryz.prog 34 #[.slice ad (num ls.length).length cc] w1 fun e w' => ∃ ad c, e = .returned (.tuple #[.slice ad (fr (num ls.length)).length c, .int .i64 0]) ∧ eB.Own w' w1.heap.size (.slice ad (fr (num ls.length)).length c) (fr (num ls.length)) ∧ w1.grownBy w' none := fun {w1 ad cc} ho => rframe_ok ad cc (num ls.length) w1 ho.rx (by omega)
  have HW : Hid (Wr W w q rb s G c n last cnt) := h
  have HFIT : Hid (∀ l ∈ ls, l.length ≤ 65536) := long_fit hL
  have HNUM : Hid ((num ls.length).length ≤ 10) := hnum
  have HRW : Hid (∀ k, R k → ¬ Wc rb G k) := hRW
  have HTT : Hid (T = if n = 0 then (layS s (nm (last + 1)) ls).1 else remS (layS s (nm (last + 1)) ls).1 (nm n)) := hT
  clear hT
  clear h hR hL hRW
  generalize hY : fr (num ls.length) = Y at *
  have HY : Hid (fr (num ls.length) = Y) := hY
  have hYl : (Y.length : Int) ≤ 100 := by have := fr_le (l := num ls.length) (by omega); rw [hY] at this; omega
  generalize (num ls.length).length = NL at *
  clear hY
  go_enter Tryz.func17, Tryz.ntmps17
  go_wp2_with (first
    | (go_at_call 42; (with_reducible refine PT.mono ?_); rintro e w1 ⟨ad1, cc1, rfl, hO1, hg1⟩)
    | (go_at_call 34; (with_reducible refine (FH hO1).mono ?_); rintro e w2 ⟨ad2, cc2, rfl, hO2, hg2⟩; have hz2 := hg2.size; have hz1 := hg1.size; have hX2 : ∀ o, o = Obj.cells #[.slice ad2 Y.length cc2] 39 → eL.Rx (w2.alloc o) (.slice (some ⟨w2.heap.size, 0, none⟩) 1 1) [(ad2, Y.length, cc2)] := (fun o ho => Elm.rx_one fun j u hu => (by
            match j, hu with
            | 0, hu => injection hu with hu; rw [← hu, ho]; exact new_at w2 rfl rfl)); have hN2 : ∀ W2 : World, eL.Own W2 w.heap.size (.slice none 0 0) [] := fun W2 => Elm.nil _ _)
    | (at_builtin; refine Elm.wpList_append (E := eL) rfl (.tmp 20) (.tmp 22) rfl w.heap.size (.slice none 0 0) [] rfl (hN2 _) _ [(ad2, Y.length, cc2)] rfl (hX2 _ rfl) (by simp) (by show (0 + 1) * 24 ≤ _; omega) (by simp; omega) ?_; intro ad3 n3 c3 w3 hO3 hg3 hl3))
  obtain ⟨hn3, hG3, hgg3⟩ := Gat.push (w := w) (wr := w1) (hN2 w1) (Each.nil _ _) hz1 hg2 hO2 hO3 hg3 hl3
  obtain rfl : n3 = 1 := hn3
  have hg03 : w.grownBy w3 none := grown_more hg1 hgg3 (fun b e => by simp [Value.ownBlock] at e)
  have hG3' : Gat w w3 (.slice ad3 1 c3) [Y] := hG3
  clear PT FH hO1 hg1 hO2 hg2 hX2 hN2 hO3 hg3 hl3 hgg3 hG3 hz1 hz2
  go_loopw [5, 8] (fun f i wr => ∃ (k : Nat) (ad : Option Addr) (cd : Nat), k ≤ ls.length ∧ i = .int .i64 (k : Int) ∧ f = .slice ad (k + 1) cd ∧ Gat w wr (.slice ad (k + 1) cd) (Y :: (ls.take k).map fr) ∧ w.grownBy wr none ∧ Hid (∀ l ∈ ls.take k, l.length ≤ 65536)) (fun _ i _ => ls.length - (intOf i).toNat)
  case atStart => exact ⟨0, ad3, c3, Nat.zero_le _, rfl, rfl, hG3', hg03, by show ∀ l ∈ _, _; simp⟩
  case round =>
    obtain ⟨k, ad, cd, hk, rfl, rfl, hG, hg, HF⟩ := hrel
    clear hG3' hg03
    by_cases hlt : k < ls.length
    · have hlti : (k : Int) < (ls.length : Int) := by omega
      obtain ⟨vs, x1, x2, x3⟩ := HR.out.grown hg
      obtain ⟨p, l, hp, hl, hpl⟩ := x2.at_ hlt
      obtain ⟨g, o, cc, ev, hcell⟩ := x1.at_ hp
      injection ev with e1 e2 e3
      subst e1 e3
      clear e2
      have hcx : wr.cell? ⟨g, o + k, none⟩ = some (.slice p.1 p.2.1 p.2.2) := by
        have := hcell 0 _ rfl
        have e : eL.size = 1 := rfl
        rw [e, Nat.mul_one, Nat.add_zero] at this
        exact this
      obtain ⟨pa, pc, hpf⟩ := hpl.form
      obtain ⟨p1, p2, p3⟩ := p
      simp only [sv] at hpf hpl hcx
      injection hpf with f1 f2 f3
      subst f1 f2 f3
      have HLK : Hid (ls[k]? = some l) := hl
      clear hcell x1 x2 x3 hp hl
      by_cases hlg : 65536 < l.length
      · exfalso
        have := HFIT.out l (List.mem_of_getElem? HLK.out)
        omega
      · have FR := rframe_ok p1 p3 l wr hpl (by omega)
        have HT : Hid ((ls.take (k + 1)).map fr = (ls.take k).map fr ++ [fr l]) := by show _ = _; rw [List.take_add_one, HLK.out]; simp
        have HF2 : Hid (∀ x ∈ ls.take (k + 1), x.length ≤ 65536) := by
          show ∀ x ∈ _, _
          rw [List.take_add_one, HLK.out]
          intro x hx
          rcases List.mem_append.1 hx with e | e
          · exact HF.out x e
          · simp at e; rw [e]; omega
        obtain ⟨us, hO, hE⟩ : Ro wr w.heap.size (.slice ad (k + 1) cd) (Y :: (ls.take k).map fr) (fun j => w.heap.size ≤ j ∧ j < wr.heap.size ∧ (Value.slice ad (k + 1) cd).ownBlock ≠ some j) := hG
        have hul : us.length = k + 1 := hO.len.symm
        have HE : Hid (Each wr us (Y :: (ls.take k).map fr) (fun j => w.heap.size ≤ j ∧ j < wr.heap.size ∧ (Value.slice ad (k + 1) cd).ownBlock ≠ some j)) := hE
        have hzr := hg.size
        have hva : ∀ j, (Value.slice ad (k + 1) cd).ownBlock = some j → w.heap.size ≤ j ∧ j < wr.heap.size := fun j hj => hO.lt j hj
        clear hE hpl
        go_wp2_with (first
          | (go_at_call 34; (with_reducible refine FR.mono ?_); rintro e w5 ⟨ay, cy, rfl, hY5, hg5⟩; have hz5 := hg5.size; have hO5 : ∀ o, eL.Own (w5.alloc o) w.heap.size (.slice ad (k + 1) cd) us := (fun o => (hO.grown hg5).grown (World.grownBy_alloc w5 o none)); have hX5 : ∀ o, o = Obj.cells #[.slice ay (fr l).length cy] 39 → eL.Rx (w5.alloc o) (.slice (some ⟨w5.heap.size, 0, none⟩) 1 1) [(ay, (fr l).length, cy)] := (fun o ho => Elm.rx_one fun j u hu => (by
                match j, hu with
                | 0, hu => injection hu with hu; rw [← hu, ho]; exact new_at w5 rfl rfl)))
          | (at_builtin; refine Elm.wpList_append (E := eL) rfl (.tmp 40) (.tmp 42) rfl w.heap.size _ us rfl (hO5 _) _ [(ay, (fr l).length, cy)] rfl (hX5 _ rfl) (by simp; omega) (by show (us.length + 1) * 24 ≤ _; omega) (by simp; omega) ?_; intro ad6 n6 c6 w6 hO6 hg6 hl6))
        obtain ⟨h6, hG6, hg56⟩ := Gat.push hO HE.out hzr hg5 hY5 hO6 hg6 hl6
        obtain rfl : n6 = k + 1 + 1 := by rw [h6]; simp; omega
        go_roundw
        case rel => exact ⟨k + 1, ad6, c6, by omega, by go_num, rfl, by rw [HT.out]; exact hG6, grown_more hg hg56 (fun b e => .inr (hva b e).1), HF2⟩
        case measure => simp [intOf]; omega
    · obtain rfl : k = ls.length := by omega
      have hW := HW.out.grown hg
      rw [List.take_length] at hG
      have hA := hG.apt (G := G) (fun k hk => HW.out.rs.lt k hk)
      have c2 := hW.c2
      have fr2 := hW.fr 2
      have hli : ¬ (ls.length : Int) < (ls.length : Int) := by omega
      by_cases hlast : last = 999999999
      · have HB : Hid (Below W.heap.size W (wr.setCell ⟨rb, 2, none⟩ (.int .i64 ((last : Int) + 1)))) := (hW.setLast (last + 1)).bel
        have u2 : (wr.setCell ⟨rb, 2, none⟩ (.int .i64 ((last : Int) + 1))).cell? ⟨rb, 2, none⟩ = some (.int .i64 ((last : Int) + 1)) := set_same c2
        have hwr : IntKind.i64.wrap ((last : Int) + 1) = (last : Int) + 1 := by rw [IntKind.wrap_i64]; omega
        have hgt : (999999999 : Int) < (last : Int) + 1 := by omega
        have hgd : decide ((999999999 : Int) < (last : Int) + 1) = true := by simpa using hgt
        have hgn : ¬ (last : Int) < 999999999 := by omega
        have HLA : Hid (last = 999999999) := hlast
        clear hW hA hG hlast
        go_wp2
        go_ret
        exact .inl ⟨rfl, HB.out, .inl HLA.out⟩
      · have hwr : IntKind.i64.wrap ((last : Int) + 1) = (last : Int) + 1 := by rw [IntKind.wrap_i64]; omega
        have u2 : (wr.setCell ⟨rb, 2, none⟩ (.int .i64 ((last : Int) + 1))).cell? ⟨rb, 2, none⟩ = some (.int .i64 ((last : Int) + 1)) := set_same c2
        have hlti : ¬ (999999999 : Int) < (last : Int) + 1 := by omega
        have HWA : Hid (Wr W (wr.setCell ⟨rb, 2, none⟩ (.int .i64 ((last : Int) + 1))) q rb s G c n (last + 1) cnt) := hW.setLast (last + 1)
        have CS := chg_set wr ⟨rb, 2, none⟩ (.int .i64 ((last : Int) + 1))
        have hrlt : rb < w.heap.size := HW.out.lt
        have HAA : Hid (Apt w (wr.setCell ⟨rb, 2, none⟩ (.int .i64 ((last : Int) + 1))) wr.heap.size G (.slice ad (ls.length + 1) cd) (Y :: ls.map fr)) := by
          have h0 : Ro wr w.heap.size (.slice ad (ls.length + 1) cd) (Y :: ls.map fr) (fun j => w.heap.size ≤ j ∧ j < wr.heap.size ∧ (Value.slice ad (ls.length + 1) cd).ownBlock ≠ some j) := hG
          exact ⟨(h0.kept CS (fun k hk e => by have := (h0.lt k hk).1; simp at e; omega) (fun k hk e => by have := hk.1; simp at e; omega)).wide fun k hk => ⟨fun e => by have := HW.out.rs.lt k e; omega, hk.2.1⟩, hA.own⟩
        have HCG : Hid (Chg (Wc rb G) w (wr.setCell ⟨rb, 2, none⟩ (.int .i64 ((last : Int) + 1)))) := (Chg.of (F := Wc rb G) hg (by simp)).trans CS fun b hb => .inl (.inr hb)
        have hzw := hg.size
        clear hW hA hG CS
        go_wp2
        obtain ⟨wA, hwA⟩ : ∃ wA, wA = wr.setCell ⟨rb, 2, none⟩ (.int .i64 ((last : Int) + 1)) := ⟨_, rfl⟩
        rw [← hwA] at HWA HAA HCG ⊢
        obtain ⟨SZ, hSZ⟩ : ∃ SZ, SZ = wr.heap.size := ⟨_, rfl⟩
        have hzA : wA.heap.size = SZ := by rw [hwA, hSZ]; simp
        rw [← hSZ] at HAA hzw
        clear hwA u2 c2 fr2
        go_loopw [11] (fun i w9 => ∃ (k : Nat) (sK : St) (GK : Nat → Prop), k ≤ ls.length + 1 ∧ i = .int .i64 (k : Int) ∧ Wr W w9 q rb sK GK (c + k) n (last + 1) cnt ∧ Apt w w9 SZ GK (.slice ad (ls.length + 1) cd) (Y :: ls.map fr) ∧ Hid (layF s (nm (last + 1)) (num ls.length :: ls) = layF sK (nm (last + 1)) ((num ls.length :: ls).drop k)) ∧ (∀ k, GK k → G k ∨ w.heap.size ≤ k) ∧ Chg (Wc rb G) w w9 ∧ SZ ≤ w9.heap.size) (fun i _ => ls.length + 1 - (intOf i).toNat)
        case atStart => exact ⟨0, s, G, Nat.zero_le _, rfl, HWA.out, HAA.out, by show _ = _; rfl, fun k hk => .inl hk, HCG.out, by omega⟩
        case round =>
          obtain ⟨k, sK, GK, hk1, rfl, hW2, hA2, HLF, hGK, hC2, hz2⟩ := hrel
          clear hzA HWA HAA HCG
          by_cases hkl : k < ls.length + 1
          · have hkli : (k : Int) < ((ls.length + 1 : Nat) : Int) := by omega
            obtain ⟨x, hx⟩ : ∃ x, (num ls.length :: ls)[k]? = some x := ⟨_, List.getElem?_eq_getElem (by simpa using hkl)⟩
            have hxf : x.length ≤ 65536 := by
              rcases List.mem_cons.1 (List.mem_of_getElem? hx) with e | e
              · rw [e]; have := num_len (n := ls.length) (by omega); omega
              · exact HFIT.out x e
            have hfx : (Y :: ls.map fr)[k]? = some (fr x) := by rw [← HY.out, ← List.map_cons, List.getElem?_map, hx]; rfl
            have HST : Hid ((num ls.length :: ls).drop k = x :: (num ls.length :: ls).drop (k + 1)) := by
              show _ = _
              have hkn : k < (num ls.length :: ls).length := by simpa using hkl
              rw [List.drop_eq_getElem_cons hkn]
              congr 1
              rw [List.getElem?_eq_getElem hkn] at hx
              injection hx
            have hnl := nm_len (n := last + 1) (by omega)
            have hfl := fr_le hxf
            have gd : wr.grownBy wr.drew none := grown_drew (grown_refl wr none)
            have hWd := hW2.grown gd
            have hAd := hA2.grown gd
            obtain ⟨g, o, pa, pc, had, i2, i3, hown⟩ := hAd.at2 hfx
            subst had
            have NA : Calls Tryz.prog 26 #[.int .i64 ((last : Int) + 1)] wr.drew fun e w' => e = .returned (.string ⟨(nm (last + 1)).toArray⟩) ∧ wr.drew.grownBy w' none ∧ w'.cell? ⟨rb, 0, none⟩ = some (.pointer (some ⟨q, 0, none⟩)) ∧ w'.cell? ⟨rb, 2, none⟩ = some (.int .i64 ((last : Int) + 1)) ∧ w'.cell? ⟨g, o + k, none⟩ = some (.slice pa (fr x).length pc) ∧ Calls Tryz.prog 22 #[.pointer (some ⟨q, 0, none⟩), .string ⟨(nm (last + 1)).toArray⟩, .slice pa (fr x).length pc] w' fun e w'' => e = .returned (.int .i64 (appE sK.l (nm (last + 1)) (fr x).length)) ∧ ∃ G', Wr W w'' q rb (appS sK (nm (last + 1)) (fr x)) G' (c + k + 1) n (last + 1) cnt ∧ Apt w w'' SZ G' (.slice (some ⟨g, o, none⟩) (ls.length + 1) cd) (Y :: ls.map fr) ∧ (∀ k, G' k → G k ∨ w.heap.size ≤ k) ∧ Chg (Wc rb G) w w'' ∧ SZ ≤ w''.heap.size ∧ w''.cell? ⟨g, o + k, none⟩ = some (.slice pa (fr x).length pc) := by
              refine (rname_any (last + 1) (by omega) (by omega) wr.drew).mono ?_
              rintro e w' ⟨rfl, g2⟩
              have h3 := hWd.grown g2
              have a3 := hAd.grown g2
              have hz3 := g2.size
              refine ⟨rfl, g2, h3.c0, h3.c2, g2.cell i2 (by simp), (rs_app h3.rs (by omega) (nm (last + 1)) (fr x) _ (by omega) (by omega) (i3.grown g2) (fun h0 j hj e => (hown h0 j hj).1 e)).mono ?_⟩
              rintro e w'' ⟨rfl, G', r1, r2, r3⟩
              have hz4 := r3.size
              refine ⟨rfl, G', h3.disk r1 r2 r3, a3.turn r3 (fun k hk => .inl hk) (fun k hk => (r2 k hk).imp id fun e => by simp at hz3; omega), fun k hk => ?_, ?_, by simp at hz3; omega, r3.cell (g2.cell i2 (by simp)) (a3.own g rfl).1⟩
              · rcases r2 k hk with e | e
                · exact hGK k e
                · exact .inr (by simp at hz3; omega)
              · refine ((hC2.trans (Chg.of (F := Wc rb G) gd (by simp)) fun _ hb => .inl hb).trans (Chg.of (F := Wc rb G) g2 (by simp)) fun _ hb => .inl hb).trans r3 fun b hb => ?_
                exact (hGK b hb).imp .inl id
            have hk0 : (0 : Int) ≤ (k : Int) := by omega
            have hkl2 : (k : Int) < (ls.length : Int) + 1 := by omega
            have d0 := hWd.c0
            have d2 := hWd.c2
            have d2' : wr.drew.cell? ⟨rb, 2, none⟩ = some (.int .i64 ((last : Int) + 1)) := d2
            have HFS : Hid (layF sK (nm (last + 1)) ((num ls.length :: ls).drop k) = if appE sK.l (nm (last + 1)) (fr x).length = 0 then layF (appS sK (nm (last + 1)) (fr x)) (nm (last + 1)) ((num ls.length :: ls).drop (k + 1)) else (sK, false)) := by
              show _ = _
              rw [HST.out, layF_step hxf]
            generalize appS sK (nm (last + 1)) (fr x) = s' at *
            generalize appE sK.l (nm (last + 1)) (fr x).length = E at *
            generalize (fr x).length = FX at *
            clear hW2 hA2 hWd hAd hx hfx HST hxf hnl hfl gd d2 i3 hown
            by_cases hE : E = 0
            · subst hE
              go_upto_region 17 with fail
              go_region_held3 (fun W => W.cell? ⟨rb, 0, none⟩ = some (.pointer (some ⟨q, 0, none⟩)) ∧ W.cell? ⟨rb, 2, none⟩ = some (.int .i64 ((last : Int) + 1)) ∧ W.cell? ⟨g, o + k, none⟩ = some (.slice pa FX pc))
                (first | (exact ⟨d0, d2', i2⟩) | (exact ⟨k0, k2, k1⟩) | (exact ⟨m0, m2, m1⟩))
                (first
                | (go_at_call 26; (with_reducible refine NA.mono ?_); rintro e w5 ⟨rfl, hg5, k0, k2, k1, AP⟩)
                | (go_at_call 22; (with_reducible refine AP.mono ?_); rintro e w6 ⟨rfl, G6, hW6, hA6, hG6, hC6, hz6, m1⟩; have m0 := hW6.c0; have m2 := hW6.c2))
              all_goals go_wp2
              all_goals go_roundw
              case rel => exact ⟨k + 1, s', G6, by omega, by go_num, hW6, hA6, by show _ = _; rw [HLF.out, HFS.out]; simp, hG6, hC6, hz6⟩
              case measure => simp [intOf]; omega
            · have hE' : (E == 0) = false := by simpa using hE
              have hE2 : (E != 0) = true := by simpa using hE
              go_upto_region 17 with fail
              go_region_held3 (fun W => W.cell? ⟨rb, 0, none⟩ = some (.pointer (some ⟨q, 0, none⟩)) ∧ W.cell? ⟨rb, 2, none⟩ = some (.int .i64 ((last : Int) + 1)) ∧ W.cell? ⟨g, o + k, none⟩ = some (.slice pa FX pc))
                (first | (exact ⟨d0, d2', i2⟩) | (exact ⟨k0, k2, k1⟩) | (exact ⟨m0, m2, m1⟩))
                (first
                | (go_at_call 26; (with_reducible refine NA.mono ?_); rintro e w5 ⟨rfl, hg5, k0, k2, k1, AP⟩)
                | (go_at_call 22; (with_reducible refine AP.mono ?_); rintro e w6 ⟨rfl, G6, hW6, hA6, hG6, hC6, hz6, m1⟩; have m0 := hW6.c0; have m2 := hW6.c2))
              all_goals go_wp2
              all_goals go_ret
              all_goals exact .inl ⟨rfl, hW6.bel, .inr (layS_not (by rw [HLF.out, HFS.out, if_neg hE]))⟩
          · obtain rfl : k = ls.length + 1 := by omega
            have hni : ¬ ((ls.length : Int) + 1 < (ls.length : Int) + 1) := by omega
            have hdr : (num ls.length :: ls).drop (ls.length + 1) = [] := List.drop_of_length_le (by simp)
            have hLF : layF s (nm (last + 1)) (num ls.length :: ls) = (sK, true) := by rw [HLF.out, hdr]; rfl
            have HLS : Hid (layS s (nm (last + 1)) ls = (syncS sK (nm (last + 1)), true)) := by
              show _ = _
              rw [layS_all (by rw [hLF]) (by omega), hLF]
            have HT2 : Hid (T = if n = 0 then syncS sK (nm (last + 1)) else remS (syncS sK (nm (last + 1))) (nm n)) := by show _ = _; rw [HTT.out, HLS.out]
            have d0 : wr.drew.cell? ⟨rb, 0, none⟩ = some (.pointer (some ⟨q, 0, none⟩)) := hW2.c0
            have d2 : wr.drew.cell? ⟨rb, 2, none⟩ = some (.int .i64 ((last : Int) + 1)) := hW2.c2
            have NA : Calls Tryz.prog 26 #[.int .i64 ((last : Int) + 1)] wr.drew _ := rlay_sync hW2 (by omega) (last + 1) (by omega) (by omega) hGK hC2
            have HLL : Hid (last ≠ 999999999) := hlast
            generalize syncS sK (nm (last + 1)) = S9 at *
            clear hW2 hA2 HLF HTT hdr hLF hlast
            go_upto_region 19 with fail
            go_region_held3 (fun W => W.cell? ⟨rb, 0, none⟩ = some (.pointer (some ⟨q, 0, none⟩)) ∧ W.cell? ⟨rb, 2, none⟩ = some (.int .i64 ((last : Int) + 1)))
              (first | (exact ⟨d0, d2⟩) | (exact ⟨k0, k2⟩) | (exact ⟨m0, m2⟩))
              (first
              | (go_at_call 26; (with_reducible refine NA.mono ?_); rintro e w5 ⟨rfl, k0, k1, k2, AP⟩)
              | (go_at_call 36; (with_reducible refine AP.mono ?_); rintro e w6 ⟨E9, G6, rfl, hW6, hG6, hC6⟩; have m0 := hW6.c0; have m1 := hW6.c1; have m2 := hW6.c2))
            all_goals
              have m2' : w6.cell? ⟨rb, 2, none⟩ = some (.int .i64 ((last : Int) + 1)) := m2
              have f1 := hW6.fr 1
              clear m2 NA d0 d2
              by_cases hn0 : n = 0
              · subst hn0
                have END := rlay_end hW6 HR.out HRW.out hC6 hG6 ((last : Int) + 1) rfl
                obtain ⟨vs, e1, e2, e3, e4, e5⟩ := END
                have HT3 : Hid (T = S9) := by show _ = _; rw [HT2.out, if_pos rfl]
                have HG : Hid (∀ k, G6 k → G k ∨ w.heap.size ≤ k) := hG6
                clear hW6 hC6 hG6 HT2
                go_upto_region 23 with fail
                go_wp2_with (at_builtin; refine Elm.wpList_append (E := eL) rfl (.tmp 110) (.tmp 111) rfl W.heap.size _ [] rfl e1 _ vs rfl e2 (by simp; omega) (by show (0 + vs.length) * 24 ≤ _; omega) (by simp; omega) ?_; intro a7 n7 c7 w7 hO7 hg7 hl7; obtain ⟨⟨u3, x0⟩, x1, x2, x3, x4, x5⟩ := e5 hO7 hg7 hl7)
                go_ret
                exact .inr ⟨rfl, HLL.out, by rw [HLS.out], G6, by rw [HT3.out]; exact x2, HG.out, x3, _, x5.1, x4, x5.2⟩
              · have hnp : (0 : Int) < (n : Int) := by omega
                have RM := rlay_rem hW6 (by omega) n (by omega) (by omega) hG6 hC6
                have d0 : w6.drew.cell? ⟨rb, 0, none⟩ = some (.pointer (some ⟨q, 0, none⟩)) := m0
                have d1 : w6.drew.cell? ⟨rb, 1, none⟩ = some (.int .i64 (n : Int)) := m1
                have HT3 : Hid (T = remS S9 (nm n)) := by show _ = _; rw [HT2.out, if_neg hn0]
                have HN : Hid (¬ n = 0) := hn0
                clear hW6 hC6 hG6 HT2 hn0
                generalize remS S9 (nm n) = S8 at *
                clear HN
                obtain ⟨Z, hZ⟩ : ∃ Z : Int, Z = (n : Int) := ⟨_, rfl⟩
                rw [← hZ] at m1 d1 hnp RM
                have HZ : Hid (Z = (n : Int)) := hZ
                clear hZ
                go_upto_region 21 with fail
                go_region_held3 (fun W => W.cell? ⟨rb, 0, none⟩ = some (.pointer (some ⟨q, 0, none⟩)) ∧ W.cell? ⟨rb, 1, none⟩ = some (.int .i64 Z))
                  (first | (exact ⟨d0, d1⟩) | (exact ⟨k0, k1⟩) | (exact ⟨m0, m1⟩))
                  (first
                  | (go_at_call 26; (with_reducible refine RM.mono ?_); rintro e w5 ⟨rfl, k0, k1, k2, AP⟩)
                  | (go_at_call 32; (with_reducible refine AP.mono ?_); rintro e w8 ⟨E8, G8, rfl, hW8, hG8, hC8⟩; have m0 := hW8.c0; have m1 : w8.cell? ⟨rb, 1, none⟩ = some (.int .i64 Z) := (by rw [HZ.out]; exact hW8.c1); have m2 := hW8.c2))
                all_goals
                  have m2' : w8.cell? ⟨rb, 2, none⟩ = some (.int .i64 ((last : Int) + 1)) := m2
                  have f1 := hW8.fr 1
                  clear m2 RM d0 d1
                  have END := rlay_end hW8 HR.out HRW.out hC8 hG8 ((last : Int) + 1) rfl
                  obtain ⟨vs, e1, e2, e3, e4, e5⟩ := END
                  have HG : Hid (∀ k, G8 k → G k ∨ w.heap.size ≤ k) := hG8
                  clear hW8 hC8 hG8
                  go_upto_region 23 with fail
                  go_wp2_with (at_builtin; refine Elm.wpList_append (E := eL) rfl (.tmp 110) (.tmp 111) rfl W.heap.size _ [] rfl e1 _ vs rfl e2 (by simp; omega) (by show (0 + vs.length) * 24 ≤ _; omega) (by simp; omega) ?_; intro a7 n7 c7 w7 hO7 hg7 hl7; obtain ⟨⟨u3, x0⟩, x1, x2, x3, x4, x5⟩ := e5 hO7 hg7 hl7)
                  go_ret
                  exact .inr ⟨rfl, HLL.out, by rw [HLS.out], G8, by rw [HT3.out]; exact x2, HG.out, x3, _, x5.1, x4, x5.2⟩
end Go.Proofs.YtapdhkgeolcogaaGreatDoor
