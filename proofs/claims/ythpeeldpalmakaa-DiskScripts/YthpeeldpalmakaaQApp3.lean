/- Append, of a new file. -/
import Derived.Test.YthpeeldpalmakaaQApp2
namespace Go.Proofs.Ythpeeldpalmakaa
open Go.RowKit Dsk
set_option linter.unusedVariables false

set_option maxRecDepth 100000 in
set_option maxHeartbeats 3200000 in
theorem app_new (b bm : Nat) (M : List (List UInt8 × Nat)) (c : Nat → Fl) (G : Nat → Nat → Prop) (m : Int) (s : ByteArray) (hs : s.size ≤ 140737488351232) (hs16 : s.data.toList.length ≤ 16) (ad : Option Addr) (cp : Nat) (l : List UInt8) (h : isNm s.data.toList = true) (w : World) (hD : DkD w b bm M c G m) (hroom : tot (lay M c) + l.length ≤ 1048576) (hlen : M.length < 64) (m0 : 0 ≤ m) (m1 : m ≤ 1000000000) (hno : (M.any fun p => p.1 == s.data.toList) = false) (hRX : eB.Rx w (.slice ad l.length cp) l) (hdj : l ≠ [] → ∀ k, (Value.slice ad l.length cp).ownBlock = some k → k ≠ bm) :
    Calls Try.prog 23 #[.pointer (some ⟨b, 0, none⟩), .string s, .slice ad l.length cp] w fun e w' => e = .returned (.int .i64 0) ∧ AppNew b bm M s.data.toList l m w w' := by
  have NM := name_any s hs
  rw [h] at NM
  have c0 := hD.c0
  have SZ := size_any hD (by omega)
  have LK := hD.map.look_no hs hno w (grown_refl _ _)
  have LN := fun ty => run_len_M hD.map ty
  generalize tot (lay M c) = T at SZ hroom
  have q1 : decide (1048576 - (T : Int) < (l.length : Int)) = false := decide_eq_false (by omega)
  have q2 : ¬ (1048576 - (T : Int) < (l.length : Int)) := by omega
  have q3 : (T : Int) ≤ 1048576 := by omega
  have q4 : ((M.length : Int) == 64) = false := by simp; omega
  have q5 : ¬ (M.length : Int) = 64 := by omega
  have HDw : Hid (DkD w b bm M c G m) := hD
  have HRX : Hid (eB.Rx w (.slice ad l.length cp) l) := hRX
  have HM : Hid ((M.any fun p => p.1 == s.data.toList) = false) := hno
  have HL : Hid (M.length < 64) := hlen
  clear h hD hno hRX hlen
  go_enter Try.func23, Try.ntmps23
  go_upto_region 9 with (first
    | (go_at_call 33; (with_reducible refine (NM _).mono ?_); rintro e w1 ⟨rfl, e1⟩; have e1' := e1.symm; clear e1; subst e1')
    | (go_at_call 34; (with_reducible refine SZ.mono ?_); rintro e w2 ⟨rfl, hg⟩; have c0' := hg.cell c0 (by simp); have c02 : ∀ o, (w2.alloc o).cell? ⟨b, 0, none⟩ = some (.map (some bm)) := (fun o => (World.grownBy_alloc w2 o none).cell c0' (by simp)); have mp : ∀ o, MapOf (w2.alloc o) bm M := (fun o => (HDw.out.map.grown hg (by simp)).grown (World.grownBy_alloc w2 o none) (by simp)))
    | (at_mapUpdate; refine wpList_update_M _ rfl _ _ _ rfl rfl (mp _) hs16 HM.out (by have := HL.out; omega) rfl rfl ?_; intro W hmW hgW))
  · have hz2 := hg.size
    have DA := HDw.out.grown (grown_more hg (World.grownBy_alloc w2 (Obj.cells #[.slice none 0 0, .slice none 0 0] 58) none) (by simp))
    obtain ⟨f, hf⟩ : ∃ f, f = w2.heap.size := ⟨_, rfl⟩
    have hbm2 : bm < w2.heap.size := (HDw.out.map.grown hg (by simp)).lt
    have nbm : some f ≠ some bm := fun e => by injection e with e; omega
    have hgW1 : w.grownBy W (some bm) := grown_more ((grown_more hg (World.grownBy_alloc w2 _ none) (by simp)).but _) hgW (fun _ e => .inl e)
    have CW : Chg (fun k => k = bm) w W := Chg.of hgW1 fun k hk => by injection hk with hk; exact hk.symm
    have HC1 : Hid (W.cell? ⟨b, 1, none⟩ = some (.int .i64 m)) := CW.cell HDw.out.c1 HDw.out.bb
    have HFR : Hid (∀ i, W.frozen? ⟨b, i, none⟩ = false) := fun i => (CW.frozen (a := ⟨b, i, none⟩) (World.block_lt_of_cell? w ⟨b, 0, none⟩ HDw.out.c0) HDw.out.bb).trans (HDw.out.fr i)
    have RX : eB.Rx W (.slice ad l.length cp) l := HRX.out.kept' CW hdj
    have hF : FilD W f (.slice none 0 0) (.slice none 0 0) ⟨[], []⟩ := ⟨hgW.cell (new_at w2 hf rfl) nbm, hgW.cell (new_at w2 hf rfl) nbm, fun i => by
      rw [World.frozen?_of_block (w := w2.alloc (Obj.cells #[.slice none 0 0, .slice none 0 0] 58)) (a := ⟨f, i, none⟩) (hgW.block f (by rw [hf]; simp) nbm), hf]
      simp, Elm.nil _ _, Elm.nil _ _, by simp [Value.ownBlock], by simp [Value.ownBlock], by simp [Value.ownBlock]⟩
    obtain ⟨vb, hvb⟩ : ∃ vb, vb = Value.slice none 0 0 := ⟨_, rfl⟩
    obtain ⟨vw, hvw⟩ : ∃ vw, vw = Value.slice none 0 0 := ⟨_, rfl⟩
    obtain ⟨fl, hfl⟩ : ∃ fl : Fl, fl = ⟨[], []⟩ := ⟨_, rfl⟩
    have hF' : FilD W f vb vw fl := by rw [hvb, hvw, hfl]; exact hF
    have HF : Hid (FilD W f vb vw fl) := hF'
    obtain ⟨G0, hG0⟩ : ∃ G0 : Nat → Prop, ∀ k, G0 k ↔ k = f := ⟨fun k => k = f, fun _ => Iff.rfl⟩
    have hGb : ∀ k, vb.ownBlock = some k → G0 k := by rw [hvb]; simp [Value.ownBlock]
    have hGw : ∀ k, vw.ownBlock = some k → G0 k := by rw [hvw]; simp [Value.ownBlock]
    have hby : fl.by_.length = 0 := by rw [hfl]; rfl
    have hws : fl.ws.length = 0 := by rw [hfl]; rfl
    have HFL : Hid (fl = ⟨[], []⟩) := hfl
    have hfW : f < W.heap.size := World.block_lt_of_cell? W _ hF.c0
    have hGlt : ∀ k, G0 k → k < W.heap.size := fun k hk => by have := (hG0 k).1 hk; omega
    have hbb2 : b < w2.heap.size := World.block_lt_of_cell? w2 _ c0'
    have hbG : ∀ k, G0 k → k ≠ b := fun k hk => by have := (hG0 k).1 hk; omega
    have hGf : G0 f := (hG0 f).2 rfl
    have HG0 : Hid (∀ k, G0 k ↔ k = f) := hG0
    have hby2 : fl.by_.length ≤ 0 := by omega
    have hws2 : fl.ws.length ≤ 0 := by omega
    have HMW : Hid (MapOf W bm (M ++ [(s.data.toList, f)])) := by rw [hf]; exact hmW
    have HCW : Hid (Chg (fun k => k = bm) w W) := CW
    have hz : Hid (w.heap.size ≤ f) := by rw [hf]; exact hz2
    have hbmf : Hid (bm ≠ f) := fun e => nbm (by rw [e])
    have hwz : Hid (w.heap.size ≤ W.heap.size) := CW.size
    rw [← hf]
    clear hF hF' hfl hvb hvw LK LN SZ q1 q2 q4 q5 c0 NM mp c02 c0' hmW hgW hgW1 DA nbm CW hg hbm2 hbb2 hz2 hf HM HL hfW hG0 hby hws
    have c1W := HC1.out
    have bfr := HFR.out 1
    have fb0 := HF.out.c0
    have ffr0 := HF.out.fr 0
    have OB := HF.out.rb
    have OW := HF.out.rw
    have hblt : b < W.heap.size := World.block_lt_of_cell? W _ c1W
    have hflt : f < W.heap.size := World.block_lt_of_cell? W _ fb0
    have KEEP : Hid (∀ w5, W.grownBy w5 vb.ownBlock → w5.cell? ⟨f, 0, none⟩ = some vb ∧ w5.frozen? ⟨f, 0, none⟩ = false) := fun w5 G5 => ⟨G5.cell fb0 (fun e => HF.out.nb e.symm), by rw [World.frozen?_of_block (w := W) (a := ⟨f, 0, none⟩) (G5.block f hflt (fun e => HF.out.nb e.symm))]; exact HF.out.fr 0⟩
    go_upto_region 10 with (at_builtin; refine Elm.wpList_append (E := eB) rfl (.tmp 57) (.tmp 58) rfl 0 _ fl.by_ rfl OB _ l rfl RX (by omega) (by show (fl.by_.length + l.length) * 1 ≤ _; omega) (Nat.zero_le _) ?_; intro ad1 n1 cp1 w5 O5 G5 L5; have k50 := (KEEP.out w5 G5).1; have f50 := (KEEP.out w5 G5).2)
    have nbv : some b ≠ vb.ownBlock := fun e => hbG b (hGb b e.symm) rfl
    have nfv : some f ≠ vb.ownBlock := fun e => HF.out.nb e.symm
    have nbw : some b ≠ vw.ownBlock := fun e => hbG b (hGw b e.symm) rfl
    have nfw : some f ≠ vw.ownBlock := fun e => HF.out.nw e.symm
    have fb : f ≠ b := hbG f hGf
    obtain ⟨w6, hw6⟩ : ∃ w6, w6 = w5.setCell ⟨f, 0, none⟩ (.slice ad1 n1 cp1) := ⟨_, rfl⟩
    have gs6 : w5.grownBy w6 (some f) := by rw [hw6]; exact grown_set _ _ _
    have k61 : w6.cell? ⟨f, 1, none⟩ = some vw := by rw [hw6]; exact (set_other (by simp)).trans (G5.cell HF.out.c1 nfv)
    have k6b : w6.cell? ⟨b, 1, none⟩ = some (.int .i64 m) := gs6.cell (G5.cell c1W nbv) (fun e => fb (by injection e with e; exact e.symm))
    have z6 : w6.heap.size = w5.heap.size := by rw [hw6]; exact size_set _ _ _
    have z5 := G5.size
    have f61 : ∀ i, w6.frozen? ⟨f, i, none⟩ = false := fun i => by
      rw [hw6, World.frozen?_setCell, World.frozen?_of_block (w := W) (a := ⟨f, i, none⟩) (G5.block f hflt nfv)]
      exact HF.out.fr i
    have b61 : w6.frozen? ⟨b, 1, none⟩ = false := by
      rw [World.frozen?_of_block (w := w5) (a := ⟨b, 1, none⟩) (gs6.block b (by omega) (fun e => fb (by injection e with e; exact e.symm))), World.frozen?_of_block (w := W) (a := ⟨b, 1, none⟩) (G5.block b hblt nbv)]
      exact bfr
    have OW6 : eW.Own w6 0 vw fl.ws := (OW.but G5 fun k hk e => HF.out.bw k e hk).but gs6 fun k hk e => nfw (by rw [hk]; exact e)
    have HW6 : Hid (w6 = w5.setCell ⟨f, 0, none⟩ (.slice ad1 n1 cp1)) := hw6
    have Z6 : Hid (w6.heap.size = w5.heap.size) := z6
    have h6f : f < w6.heap.size := by omega
    have h6b : b < w6.heap.size := by omega
    rw [← hw6]
    clear hw6 z6 KEEP k50 f50 OB fb0 ffr0 c1W bfr gs6
    have OW7 : ∀ o, (w6.alloc o).drew.eWOwn vw fl.ws := fun o => OW6.grown (grown_drew (World.grownBy_alloc w6 o none))
    have hid0 : (w6.alloc (Obj.cells #[.int .i64 m, .int .i64 (l.length : Int)] 63)).drew.cell? ⟨w6.heap.size, 0, none⟩ = some (.int .i64 m) := new_at w6 rfl rfl
    have hid1 : (w6.alloc (Obj.cells #[.int .i64 m, .int .i64 (l.length : Int)] 63)).drew.cell? ⟨w6.heap.size, 1, none⟩ = some (.int .i64 (l.length : Int)) := new_at w6 rfl rfl
    have RW7 : eW.Rx (w6.alloc (Obj.cells #[.int .i64 m, .int .i64 (l.length : Int)] 63)).drew (.slice (some ⟨w6.heap.size, 0, none⟩) 1 1) [(m, l.length)] := Elm.rx_one fun j u hu => by
      match j, hu with
      | 0, hu => injection hu with hu; rw [← hu]; exact hid0
      | 1, hu => injection hu with hu; rw [← hu]; exact hid1
    have kb : Hid (∀ {o1 w7}, (w6.alloc o1).drew.grownBy w7 vw.ownBlock → w6.grownBy w7 vw.ownBlock ∧ w7.cell? ⟨f, 1, none⟩ = some vw ∧ w7.frozen? ⟨f, 1, none⟩ = false ∧ w7.cell? ⟨b, 1, none⟩ = some (.int .i64 m) ∧ w7.frozen? ⟨b, 1, none⟩ = false) := fun {o1 w7} g => by
      have g' : w6.grownBy w7 vw.ownBlock := grown_more ((grown_drew (World.grownBy_alloc w6 o1 none)).but _) g (fun _ e => .inl e)
      exact ⟨g', g'.cell k61 nfw, by rw [World.frozen?_of_block (w := w6) (a := ⟨f, 1, none⟩) (g'.block f h6f nfw)]; exact f61 1, g'.cell k6b nbw, by rw [World.frozen?_of_block (w := w6) (a := ⟨b, 1, none⟩) (g'.block b h6b nbw)]; exact b61⟩
    have hwl : (fl.ws.length + [(m, l.length)].length) * 16 ≤ 140737488355328 := by simp; omega
    have hwl2 : fl.ws.length + [(m, l.length)].length ≤ 4611686018427387904 := by simp; omega
    go_region_law (refine step_of rfl (Elm.wp_append (E := eW) (.tmp 66) (.tmp 74) rfl 0 vw fl.ws rfl (OW7 _) _ [(m, l.length)] rfl RW7 hwl2 hwl (Nat.zero_le _) ?_); intro ad3 n3 cp3 w7 O7 G7' L7; have G7 := (kb.out G7').1; have k71 := (kb.out G7').2.1; have f71 := (kb.out G7').2.2.1; have k7b := (kb.out G7').2.2.2.1; have f7b := (kb.out G7').2.2.2.2)
    all_goals
      have hbk : (w7.setCell ⟨f, 1, none⟩ (.slice ad3 n3 cp3)).cell? ⟨b, 1, none⟩ = some (.int .i64 m) := (set_other (fun e => fb (by injection e))).trans k7b
      have hbf : (w7.setCell ⟨f, 1, none⟩ (.slice ad3 n3 cp3)).frozen? ⟨b, 1, none⟩ = false := (World.frozen?_setCell _ _ _ _).trans f7b
      obtain ⟨w8, hw8⟩ : ∃ w8, w8 = w7.setCell ⟨f, 1, none⟩ (.slice ad3 n3 cp3) := ⟨_, rfl⟩
      rw [← hw8] at hbk hbf ⊢
      have HW8 : Hid (w8 = w7.setCell ⟨f, 1, none⟩ (.slice ad3 n3 cp3)) := hw8
      clear hw8 k71 f71 k7b f7b kb RW7 hid0 hid1 OW7 OW6 OW k61 k6b f61 b61
      go_wp2
      go_ret
      have L7' : (Value.slice ad3 n3 cp3).ownBlock = vw.ownBlock ∨ ∃ k, (Value.slice ad3 n3 cp3).ownBlock = some k ∧ w5.heap.size ≤ k := by
        rcases L7 with e | e
        · exact .inl e
        · refine .inr ⟨_, e, ?_⟩
          have := Z6.out
          simp
          omega
      have g3' : (w5.setCell ⟨f, 0, none⟩ (.slice ad1 n1 cp1)).grownBy w7 vw.ownBlock := by rw [← HW6.out]; exact G7
      have R := FilD.add (G := G0) HF.out hGf hGb hGw hGlt O5 G5 L5 O7 g3' L7'
      rw [← HW8.out] at R
      have hz' := hz.out
      have CC : Chg (fun k => k = bm) w w8 := HCW.out.trans R.2 fun k hk => .inr (by have := (HG0.out k).1 hk; omega)
      have R1 := R.1
      rw [HFL.out] at R1
      exact ⟨rfl, w8, f, _, rfl, R1, HMW.out.kept R.2 (fun e => hbmf.out ((HG0.out bm).1 e)), fun k hk => by have := hwz.out; rcases hk.2 with e | e; have := (HG0.out k).1 e; omega; omega, CC⟩
end Go.Proofs.Ythpeeldpalmakaa
