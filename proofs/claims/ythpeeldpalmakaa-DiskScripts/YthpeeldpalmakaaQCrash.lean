/- What a crash leaves of one file. -/
import Derived.Test.YthpeeldpalmakaaQAppend
namespace Go.Proofs.Ythpeeldpalmakaa
open Go.RowKit Dsk
set_option linter.unusedVariables false

/-- The i-th element's place, and what lies there. -/
theorem Elm.Own.idx {α : Type} {E : Elm α} {w : World} {base : Nat} {v : Value} {l : List α} (h : E.Own w base v l) (hl : l.length ≤ 9223372036854775807) {i : Nat} {x : α} (hi : l[i]? = some x) :
    ∃ g q, (∀ W, (Instr.indexAt E.sl v (.int .i64 (i : Int))).run Try.prog W = .ok (.pointer (some ⟨g, q, none⟩)) W) ∧ (∀ j u, (E.enc x)[j]? = some u → w.cell? ⟨g, q + j, none⟩ = some u) ∧ (∀ j, w.frozen? ⟨g, j, none⟩ = false) ∧ v.ownBlock = some g := by
  obtain ⟨g, c, rfl, h1, h2⟩ := h.at_ hi
  have hlt := (List.getElem?_eq_some_iff.1 hi).1
  exact ⟨g, 0 + i * E.size, fun W => Elm.run_at hlt hl, fun j u hu => by have := h1 j u hu; rw [Nat.zero_add]; exact this, h2, rfl⟩
theorem Elm.Rx.idx {α : Type} {E : Elm α} {w : World} {v : Value} {l : List α} (h : E.Rx w v l) (hl : l.length ≤ 9223372036854775807) {i : Nat} {x : α} (hi : l[i]? = some x) :
    ∃ g q, (∀ W, (Instr.indexAt E.sl v (.int .i64 (i : Int))).run Try.prog W = .ok (.pointer (some ⟨g, q, none⟩)) W) ∧ (∀ j u, (E.enc x)[j]? = some u → w.cell? ⟨g, q + j, none⟩ = some u) ∧ v.ownBlock = some g := by
  obtain ⟨g, o, c, rfl, h1⟩ := h.at_ hi
  have hlt := (List.getElem?_eq_some_iff.1 hi).1
  exact ⟨g, o + i * E.size, fun W => Elm.run_at hlt hl, h1, rfl⟩
set_option maxRecDepth 100000 in
set_option maxHeartbeats 800000 in
theorem stays_any (p : Int × Nat) (nx torn : Int) (hp : p.2 ≤ 1048576) (w : World) :
    Calls Try.prog 38 #[.agg #[.int .i64 p.1, .int .i64 (p.2 : Int)], .int .i64 nx, .int .i64 torn] w fun e w' => e = .returned (.int .i64 (stays nx torn p : Int)) ∧ w.grownBy w' none := by
  unfold stays
  by_cases h1 : p.1 < nx
  · rw [if_pos h1]
    go_enter Try.func38, Try.ntmps38
    go_wp2
    go_ret
    exact ⟨rfl, World.grownBy_alloc w _ none⟩
  · rw [if_neg h1]
    by_cases h2 : nx < p.1
    · rw [if_pos h2]
      go_enter Try.func38, Try.ntmps38
      go_wp2
      go_ret
      exact ⟨rfl, World.grownBy_alloc w _ none⟩
    · rw [if_neg h2]
      have e : ((min torn.toNat p.2 : Nat) : Int) = min (max torn 0) (p.2 : Int) := by omega
      rw [e]
      clear e
      go_enter Try.func38, Try.ntmps38
      go_wp2
      all_goals
        go_ret
        exact ⟨ret_int (by omega), World.grownBy_alloc w _ none⟩
theorem lost_next {nx torn : Int} {ws : List (Int × Nat)} {k : Nat} {p : Int × Nat} (h : ws[k]? = some p) : lost nx torn (ws.take (k + 1)) = lost nx torn (ws.take k) + (p.2 - stays nx torn p) := by
  rw [List.take_add_one, h]
  exact lost_snoc _ _ _ _
/-- How a file that a crash has met lies in memory. -/
theorem FilD.cut {w w1 : World} {f : Nat} {vb vw vb' : Value} {fl : Fl} {k : Nat} (h : FilD w f vb vw fl) (g : w.grownBy w1 none) (O : eB.Own w1 0 vb' (fl.by_.take k)) (hb : vb'.ownBlock = vb.ownBlock) :
    FilD ((w1.setCell ⟨f, 0, none⟩ vb').setCell ⟨f, 1, none⟩ (.slice none 0 0)) f vb' (.slice none 0 0) ⟨fl.by_.take k, []⟩ := by
  have g1 := grown_set w1 ⟨f, 0, none⟩ vb'
  have g2 := grown_set (w1.setCell ⟨f, 0, none⟩ vb') ⟨f, 1, none⟩ (.slice none 0 0)
  have nb : ∀ j, vb'.ownBlock = some j → j ≠ f := fun j hj e => h.nb (by rw [← hb, hj, e])
  have flt : f < w.heap.size := World.block_lt_of_cell? w _ h.c0
  refine ⟨(set_other (by simp)).trans (set_same (g.cell h.c0 (by simp))), set_same ((set_other (by simp)).trans (g.cell h.c1 (by simp))), fun i => ?_, (O.but g1 fun j hj e => nb j hj (by injection e with e; exact e.symm)).but g2 fun j hj e => nb j hj (by injection e with e; exact e.symm), Elm.nil _ _, fun e => nb f e rfl, by simp [Value.ownBlock], by simp [Value.ownBlock]⟩
  rw [World.frozen?_setCell, World.frozen?_setCell, World.frozen?_of_block (w := w) (a := ⟨f, i, none⟩) (g.block f flt (by simp))]
  exact h.fr i
set_option maxRecDepth 100000 in
set_option maxHeartbeats 3200000 in
theorem crash_run (f : Nat) (vb vw : Value) (fl : Fl) (nx torn : Int) (w : World) (h : FilD w f vb vw fl) (hl : fl.by_.length ≤ 1048576) (hsz : sz fl ≤ fl.by_.length) (hws : fl.ws.length ≤ 1000000000) :
    Calls Try.prog 32 #[.pointer (some ⟨f, 0, none⟩), .int .i64 nx, .int .i64 torn] w fun e w' => e = .returned (.tuple #[]) ∧ ∃ vb', FilD w' f vb' (.slice none 0 0) (fl.crash nx torn) ∧ vb'.ownBlock = vb.ownBlock ∧ Chg (fun k => k = f) w w' := by
  obtain ⟨adb, cb, rfl⟩ := Elm.form h.rb
  obtain ⟨adw, cw, rfl⟩ := Elm.form h.rw
  have SY := stays_any
  have c1 := h.c1
  have hle := lost_le nx torn fl.ws
  unfold Dsk.sz at hsz
  have H : Hid (FilD w f (.slice adb fl.by_.length cb) (.slice adw fl.ws.length cw) fl) := h
  have each : ∀ (k : Nat) (p : Int × Nat), fl.ws[k]? = some p → p.2 ≤ 1048576 := fun k p hk => by
    have hm := List.mem_of_getElem? hk
    obtain ⟨A, B, e⟩ := List.append_of_mem hm
    rw [e] at hsz
    simp at hsz
    omega
  have HE : Hid (∀ (k : Nat) (p : Int × Nat), fl.ws[k]? = some p → p.2 ≤ 1048576) := each
  have tk : ∀ k, lost nx torn (fl.ws.take k) ≤ 1048576 := fun k => by have := lost_take nx torn fl.ws k; omega
  have HT : Hid (∀ k, lost nx torn (fl.ws.take k) ≤ 1048576) := tk
  have hll : lost nx torn fl.ws ≤ fl.by_.length := by omega
  have HL : Hid (lost nx torn fl.ws ≤ fl.by_.length) := hll
  clear hll
  clear each h hsz hle tk
  go_enter Try.func32, Try.ntmps32
  go_wp2
  go_loopw [6, 14] (fun lo i wr => ∃ k : Nat, k ≤ fl.ws.length ∧ i = Value.int .i64 (k : Int) ∧ lo = Value.int .i64 (lost nx torn (fl.ws.take k) : Int) ∧ w.grownBy wr none) (fun _ i _ => fl.ws.length - (intOf i).toNat)
  case atStart => exact ⟨0, Nat.zero_le _, rfl, by simp [lost], grown_refl _ _⟩
  case round =>
    obtain ⟨k, hk, rfl, rfl, hgw⟩ := hrel
    by_cases hlt : k < fl.ws.length
    · obtain ⟨p, hp⟩ : ∃ p, fl.ws[k]? = some p := ⟨_, List.getElem?_eq_getElem hlt⟩
      obtain ⟨g, q, hidx, hcell, hfr, hown⟩ := (H.out.rw.grown hgw).idx (by omega) hp
      have hidx' : ∀ W, (Instr.indexAt 56 (.slice adw fl.ws.length cw) (.int .i64 (k : Int))).run Try.prog W = .ok (.pointer (some ⟨g, q, none⟩)) W := hidx
      have y0 : wr.cell? ⟨g, q, none⟩ = some (.int .i64 p.1) := hcell 0 _ rfl
      have y1 : wr.cell? ⟨g, q + 1, none⟩ = some (.int .i64 (p.2 : Int)) := hcell 1 _ rfl
      have hp2 := HE.out k p hp
      have SYp := fun w => stays_any p nx torn hp2 w
      have HN : Hid (lost nx torn (fl.ws.take (k + 1)) = lost nx torn (fl.ws.take k) + (p.2 - stays nx torn p)) := lost_next hp
      have st := stays_le nx torn p
      have hb1 := HT.out k
      have hb2 := HT.out (k + 1)
      rw [HN.out] at hb2
      generalize hlo : lost nx torn (fl.ws.take k) = lo at HN hb1 hb2 ⊢
      generalize hst : stays nx torn p = sy at HN SYp st hb2
      clear hidx hcell hfr hp hown SY hlo hst
      obtain ⟨W1, hW1⟩ : ∃ W1, W1 = wr.alloc (Obj.cells #[.int .i64 p.1, .int .i64 (p.2 : Int)] 63) := ⟨_, rfl⟩
      have x0 : ∀ x : Gr W1, x.now.cell? ⟨wr.heap.size, 0, none⟩ = some (.int .i64 p.1) := fun x => x.grown.cell (by rw [hW1]; exact new_at wr rfl rfl) (by simp)
      have x1 : ∀ x : Gr W1, x.now.cell? ⟨wr.heap.size, 1, none⟩ = some (.int .i64 (p.2 : Int)) := fun x => x.grown.cell (by rw [hW1]; exact new_at wr rfl rfl) (by simp)
      have hne : Nonempty (Gr W1) := ⟨W1, grown_refl _ _⟩
      have HW1 : Hid (wr.grownBy W1 none) := by rw [hW1]; exact World.grownBy_alloc wr _ none
      go_upto_region 4 with fail
      rw [← hW1]
      clear hW1
      refine wp_region_quiet_at (C := fun w' => ∃ x : Gr W1, w' = x.now) (by kernel_rfl) (by kernel_rfl) ⟨⟨_, grown_drewN (grown_refl _ _) 1⟩, rfl⟩ ?_
      repeat (go_big_quiet_step ((go_at_call 38; with_reducible refine Gr.call (SYp _))))
      refine wpQuiet_nil ?_
      rintro _ ⟨x, rfl⟩
      go_wp2
      go_roundw
      case rel => exact ⟨k + 1, by omega, by go_num, by rw [HN.out]; go_num, grown_more hgw (grown_more HW1.out x.grown (by simp)) (by simp)⟩
      case measure => simp [intOf]; omega
    · have hkk : k = fl.ws.length := by omega
      have htk : fl.ws.take k = fl.ws := List.take_of_length_le (by omega)
      rw [htk]
      obtain ⟨q, hq⟩ : ∃ q, q = fl.by_.length - lost nx torn fl.ws := ⟨_, rfl⟩
      have hll := HL.out
      obtain ⟨ad', c', hsl, hO, hbk⟩ := Elm.upto (H.out.rb.grown hgw) (k := q) (by omega)
      have e1 : ((fl.by_.length : Int) - (lost nx torn fl.ws : Int)) = (q : Int) := by omega
      have hsl' : ∀ W, (Instr.slice 31 (.slice adb fl.by_.length cb) none (some (.int .i64 (q : Int))) none).run Try.prog W = .ok (.slice ad' q c') W := fun W => by
        rw [← run_sliceAt_slice W 31 _ _ _ _ (by kernel_rfl)]
        exact hsl W
      have hwr : IntKind.i64.wrap ((fl.by_.length : Int) - (lost nx torn fl.ws : Int)) = (q : Int) := by
        rw [e1]
        rw [IntKind.wrap_i64]; omega
      have z0 := hgw.cell H.out.c0 (by simp)
      have z1 := hgw.cell H.out.c1 (by simp)
      have flt : f < w.heap.size := World.block_lt_of_cell? w _ H.out.c0
      have zf : ∀ i, wr.frozen? ⟨f, i, none⟩ = false := fun i => by rw [World.frozen?_of_block (w := w) (a := ⟨f, i, none⟩) (hgw.block f flt (by simp))]; exact H.out.fr i
      have zf0 := zf 0
      have zf1 := zf 1
      have HQ : Hid (q = fl.by_.length - lost nx torn fl.ws) := hq
      have HO : Hid (eB.Own wr 0 (.slice ad' q c') (fl.by_.take q)) := hO
      have HB : Hid ((Value.slice ad' q c').ownBlock = (Value.slice adb fl.by_.length cb).ownBlock) := hbk
      have bq : (q : Int) ≤ 1048576 := by omega
      generalize hlo : lost nx torn fl.ws = lo at *
      have HLO : Hid (lost nx torn fl.ws = lo) := hlo
      have blo : (lo : Int) ≤ 1048576 := by omega
      have blo2 : (lo : Int) ≤ (fl.by_.length : Int) := by omega
      clear hq hO hbk hsl htk hkk e1 hlo SY zf
      go_upto_region 6 with fail
      refine region_tail 15 (by kernel_rfl) (by kernel_rfl) ?_
      simp only [List.take_succ_cons, List.take_zero, List.drop_succ_cons, List.drop_zero]
      iterate 15 still_step
      refine wpStill_nil ?_
      go_wp2
      go_end0
      have R := FilD.cut (w1 := wr.drew) H.out (grown_drew hgw) HO.out HB.out
      rw [HQ.out] at R
      have HB' := HB.out
      rw [HQ.out] at HB'
      have C1 : Chg (fun k => k = f) w wr.drew := Chg.of (grown_drew hgw) (by simp)
      have C2 := (C1.grown (grown_set wr.drew ⟨f, 0, none⟩ (.slice ad' (fl.by_.length - lo) c')) fun k hk => .inl (by injection hk with hk; exact hk.symm)).grown (grown_set _ ⟨f, 1, none⟩ (.slice none 0 0)) fun k hk => .inl (by injection hk with hk; exact hk.symm)
      have HC : Fl.crash nx torn fl = ⟨fl.by_.take (fl.by_.length - lo), []⟩ := by unfold Fl.crash; rw [HLO.out]
      rw [HC]
      have hq' := HQ.out
      subst hq'
      exact ⟨rfl, _, R, HB', C2⟩
end Go.Proofs.Ythpeeldpalmakaa
