/- Append, where it is done. -/
import Derived.Test.YthpeeldpalmakaaQApp
namespace Go.Proofs.Ythpeeldpalmakaa
open Go.RowKit Dsk
set_option linter.unusedVariables false

/-- What Append leaves, of a file that was there; of a new one. -/
def AppOld (b f : Nat) (fl : Fl) (l : List UInt8) (m : Int) (G : Nat → Prop) (w w' : World) : Prop := ∃ w8 G', w' = w8.setCell ⟨b, 1, none⟩ (.int .i64 (m + 1)) ∧ Fil w8 f ⟨fl.by_ ++ l, fl.ws ++ [(m, l.length)]⟩ G' ∧ (∀ k, G' k → G k ∨ w.heap.size ≤ k) ∧ Chg G w w8
def AppNew (b bm : Nat) (M : List (List UInt8 × Nat)) (nm l : List UInt8) (m : Int) (w w' : World) : Prop := ∃ w8 f G', w' = w8.setCell ⟨b, 1, none⟩ (.int .i64 (m + 1)) ∧ Fil w8 f ⟨l, [(m, l.length)]⟩ G' ∧ MapOf w8 bm (M ++ [(nm, f)]) ∧ (∀ k, G' k → w.heap.size ≤ k) ∧ Chg (fun k => k = bm) w w8
/-- A row of writes of its own. -/
def _root_.Go.World.eWOwn (w : World) (v : Value) (l : List (Int × Nat)) : Prop := eW.Own w 0 v l
set_option maxRecDepth 100000 in
set_option maxHeartbeats 3200000 in
theorem app_old (b bm f : Nat) (M : List (List UInt8 × Nat)) (c : Nat → Fl) (G : Nat → Nat → Prop) (m : Int) (s : ByteArray) (hs : s.size ≤ 140737488351232) (ad : Option Addr) (cp : Nat) (l : List UInt8) (h : isNm s.data.toList = true) (w : World) (hD : DkD w b bm M c G m) (hroom : tot (lay M c) + l.length ≤ 1048576) (hws : (c f).ws.length ≤ 1000000000) (m0 : 0 ≤ m) (m1 : m ≤ 1000000000) (hf : (s.data.toList, f) ∈ M) (hRX : eB.Rx w (.slice ad l.length cp) l) :
    Calls Try.prog 23 #[.pointer (some ⟨b, 0, none⟩), .string s, .slice ad l.length cp] w fun e w' => e = .returned (.int .i64 0) ∧ AppOld b f (c f) l m (G f) w w' := by
  have NM := name_any s hs
  rw [h] at NM
  have c0 := hD.c0
  have SZ := size_any hD (by omega)
  have LK := hD.map.look_yes hs hf w (grown_refl _ _)
  have hby : (c f).by_.length ≤ tot (lay M c) := mem_tot (p := (s.data.toList, c f)) (List.mem_map.2 ⟨_, hf, rfl⟩)
  generalize tot (lay M c) = T at SZ hroom hby
  have q1 : decide (1048576 - (T : Int) < (l.length : Int)) = false := decide_eq_false (by omega)
  have q2 : ¬ (1048576 - (T : Int) < (l.length : Int)) := by omega
  have q3 : (T : Int) ≤ 1048576 := by omega
  have HDw : Hid (DkD w b bm M c G m) := hD
  have HRX : Hid (eB.Rx w (.slice ad l.length cp) l) := hRX
  have HM : Hid ((s.data.toList, f) ∈ M) := hf
  clear h hD hf hRX
  go_enter Try.func23, Try.ntmps23
  go_upto_region 9 with (first
    | (go_at_call 33; (with_reducible refine (NM _).mono ?_); rintro e w1 ⟨rfl, e1⟩; have e1' := e1.symm; clear e1; subst e1')
    | (go_at_call 34; (with_reducible refine SZ.mono ?_); rintro e W ⟨rfl, hg⟩))
  · have RX := HRX.out.grown hg
    have HD : Hid (DkD W b bm M c G m) := HDw.out.grown hg
    obtain ⟨fl, hfl⟩ : ∃ fl, fl = c f := ⟨_, rfl⟩
    rw [← hfl] at hws hby
    obtain ⟨vb, vw, hF, hGf, hGb, hGw, hGlt⟩ := HD.out.fil _ HM.out
    have hbG : ∀ k, G f k → k ≠ b := fun k hk => (HD.out.base _ HM.out k hk).1
    rw [← hfl] at hF
    have HFL : Hid (fl = c f) := hfl
    have HF : Hid (FilD W f vb vw fl) := hF
    have hgz := hg.size
    clear hF hfl LK SZ q1 q2 c0 NM
    have c1W := HD.out.c1
    have bfr := HD.out.fr 1
    have fb0 := HF.out.c0
    have ffr0 := HF.out.fr 0
    have OB := HF.out.rb
    have OW := HF.out.rw
    have hblt : b < W.heap.size := World.block_lt_of_cell? W _ c1W
    have hflt : f < W.heap.size := World.block_lt_of_cell? W _ fb0
    have KEEP : Hid (∀ w5, W.grownBy w5 vb.ownBlock → w5.cell? ⟨f, 0, none⟩ = some vb ∧ w5.frozen? ⟨f, 0, none⟩ = false) := fun w5 G5 => ⟨G5.cell fb0 (fun e => HF.out.nb e.symm), by rw [World.frozen?_of_block (w := W) (a := ⟨f, 0, none⟩) (G5.block f hflt (fun e => HF.out.nb e.symm))]; exact HF.out.fr 0⟩
    go_upto_region 10 with (at_builtin; refine Elm.wpList_append (E := eB) rfl (.tmp 57) (.tmp 58) rfl 0 _ fl.by_ rfl OB _ l rfl RX (by omega) (by show (fl.by_.length + l.length) * 1 ≤ _; omega) (Nat.zero_le _) ?_; intro ad1 n1 cp1 w5 O5 G5 L5; have k50 := (KEEP.out w5 G5).1; have f50 := (KEEP.out w5 G5).2)
    have nbv : some b ≠ vb.ownBlock := fun e => hbG b (hGb b e.symm) rfl
    have nfv : some f ≠ vb.ownBlock := fun e => HF.out.nb e.symm
    have nbw : some b ≠ vw.ownBlock := fun e => hbG b (hGw b e.symm) rfl
    have nfw : some f ≠ vw.ownBlock := fun e => HF.out.nw e.symm
    have fb : f ≠ b := hbG f hGf
    obtain ⟨w6, hw6⟩ : ∃ w6, w6 = w5.setCell ⟨f, 0, none⟩ (.slice ad1 n1 cp1) := ⟨_, rfl⟩
    have gs6 : w5.grownBy w6 (some f) := by rw [hw6]; exact grown_set _ _ _
    have k61 : w6.cell? ⟨f, 1, none⟩ = some vw := by rw [hw6]; exact (set_other (by simp)).trans (G5.cell HF.out.c1 nfv)
    have k6b : w6.cell? ⟨b, 1, none⟩ = some (.int .i64 m) := gs6.cell (G5.cell c1W nbv) (fun e => fb (by injection e with e; exact e.symm))
    have z6 : w6.heap.size = w5.heap.size := by rw [hw6]; exact size_set _ _ _
    have z5 := G5.size
    have f61 : ∀ i, w6.frozen? ⟨f, i, none⟩ = false := fun i => by
      rw [hw6, World.frozen?_setCell, World.frozen?_of_block (w := W) (a := ⟨f, i, none⟩) (G5.block f hflt nfv)]
      exact HF.out.fr i
    have b61 : w6.frozen? ⟨b, 1, none⟩ = false := by
      rw [World.frozen?_of_block (w := w5) (a := ⟨b, 1, none⟩) (gs6.block b (by omega) (fun e => fb (by injection e with e; exact e.symm))), World.frozen?_of_block (w := W) (a := ⟨b, 1, none⟩) (G5.block b hblt nbv)]
      exact bfr
    have OW6 : eW.Own w6 0 vw fl.ws := (OW.but G5 fun k hk e => HF.out.bw k e hk).but gs6 fun k hk e => nfw (by rw [hk]; exact e)
    have HW6 : Hid (w6 = w5.setCell ⟨f, 0, none⟩ (.slice ad1 n1 cp1)) := hw6
    have Z6 : Hid (w6.heap.size = w5.heap.size) := z6
    have h6f : f < w6.heap.size := by omega
    have h6b : b < w6.heap.size := by omega
    rw [← hw6]
    clear hw6 z6 KEEP k50 f50 OB fb0 ffr0 c1W bfr gs6
    have OW7 : ∀ o, (w6.alloc o).drew.eWOwn vw fl.ws := fun o => OW6.grown (grown_drew (World.grownBy_alloc w6 o none))
    have hid0 : (w6.alloc (Obj.cells #[.int .i64 m, .int .i64 (l.length : Int)] 63)).drew.cell? ⟨w6.heap.size, 0, none⟩ = some (.int .i64 m) := new_at w6 rfl rfl
    have hid1 : (w6.alloc (Obj.cells #[.int .i64 m, .int .i64 (l.length : Int)] 63)).drew.cell? ⟨w6.heap.size, 1, none⟩ = some (.int .i64 (l.length : Int)) := new_at w6 rfl rfl
    have RW7 : eW.Rx (w6.alloc (Obj.cells #[.int .i64 m, .int .i64 (l.length : Int)] 63)).drew (.slice (some ⟨w6.heap.size, 0, none⟩) 1 1) [(m, l.length)] := Elm.rx_one fun j u hu => by
      match j, hu with
      | 0, hu => injection hu with hu; rw [← hu]; exact hid0
      | 1, hu => injection hu with hu; rw [← hu]; exact hid1
    have kb : Hid (∀ {o1 w7}, (w6.alloc o1).drew.grownBy w7 vw.ownBlock → w6.grownBy w7 vw.ownBlock ∧ w7.cell? ⟨f, 1, none⟩ = some vw ∧ w7.frozen? ⟨f, 1, none⟩ = false ∧ w7.cell? ⟨b, 1, none⟩ = some (.int .i64 m) ∧ w7.frozen? ⟨b, 1, none⟩ = false) := fun {o1 w7} g => by
      have g' : w6.grownBy w7 vw.ownBlock := grown_more ((grown_drew (World.grownBy_alloc w6 o1 none)).but _) g (fun _ e => .inl e)
      exact ⟨g', g'.cell k61 nfw, by rw [World.frozen?_of_block (w := w6) (a := ⟨f, 1, none⟩) (g'.block f h6f nfw)]; exact f61 1, g'.cell k6b nbw, by rw [World.frozen?_of_block (w := w6) (a := ⟨b, 1, none⟩) (g'.block b h6b nbw)]; exact b61⟩
    have hwl : (fl.ws.length + [(m, l.length)].length) * 16 ≤ 140737488355328 := by simp; omega
    have hwl2 : fl.ws.length + [(m, l.length)].length ≤ 4611686018427387904 := by simp; omega
    go_region_law (refine step_of rfl (Elm.wp_append (E := eW) (.tmp 66) (.tmp 74) rfl 0 vw fl.ws rfl (OW7 _) _ [(m, l.length)] rfl RW7 hwl2 hwl (Nat.zero_le _) ?_); intro ad3 n3 cp3 w7 O7 G7' L7; have G7 := (kb.out G7').1; have k71 := (kb.out G7').2.1; have f71 := (kb.out G7').2.2.1; have k7b := (kb.out G7').2.2.2.1; have f7b := (kb.out G7').2.2.2.2)
    all_goals
      have hbk : (w7.setCell ⟨f, 1, none⟩ (.slice ad3 n3 cp3)).cell? ⟨b, 1, none⟩ = some (.int .i64 m) := (set_other (fun e => fb (by injection e))).trans k7b
      have hbf : (w7.setCell ⟨f, 1, none⟩ (.slice ad3 n3 cp3)).frozen? ⟨b, 1, none⟩ = false := (World.frozen?_setCell _ _ _ _).trans f7b
      obtain ⟨w8, hw8⟩ : ∃ w8, w8 = w7.setCell ⟨f, 1, none⟩ (.slice ad3 n3 cp3) := ⟨_, rfl⟩
      rw [← hw8] at hbk hbf ⊢
      have HW8 : Hid (w8 = w7.setCell ⟨f, 1, none⟩ (.slice ad3 n3 cp3)) := hw8
      clear hw8 k71 f71 k7b f7b kb RW7 hid0 hid1 OW7 OW6 OW k61 k6b f61 b61
      go_wp2
      go_ret
      have L7' : (Value.slice ad3 n3 cp3).ownBlock = vw.ownBlock ∨ ∃ k, (Value.slice ad3 n3 cp3).ownBlock = some k ∧ w5.heap.size ≤ k := by
        rcases L7 with e | e
        · exact .inl e
        · refine .inr ⟨_, e, ?_⟩
          have := Z6.out
          simp
          omega
      have g3' : (w5.setCell ⟨f, 0, none⟩ (.slice ad1 n1 cp1)).grownBy w7 vw.ownBlock := by rw [← HW6.out]; exact G7
      have R := FilD.add HF.out hGf hGb hGw hGlt O5 G5 L5 O7 g3' L7'
      rw [← HW8.out] at R
      have hz := hg.size
      have CC : Chg (G f) w w8 := (Chg.of (F := G f) hg (by simp)).trans R.2 fun k hk => .inl hk
      rw [← HFL.out]
      exact ⟨rfl, w8, _, rfl, R.1, fun k hk => hk.2.imp id (fun e => by omega), CC⟩
end Go.Proofs.Ythpeeldpalmakaa
