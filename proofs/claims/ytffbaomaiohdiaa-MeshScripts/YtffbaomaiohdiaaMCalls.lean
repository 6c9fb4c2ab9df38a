/- take, find, enter: what a mesh's calls are made of. -/
import Derived.Test.YtffbaomaiohdiaaMDel
namespace Go.Proofs.Ytffbaomaiohdiaa
open Go.RowKit Msh
set_option linter.unusedVariables false
set_option maxRecDepth 10000

theorem res_pk2 {fn : Func} {p u : Tmp} {w : World} {q : Nat} {x : Pk} {tmps : Array Value} (h : fn.results = #[.cell p 37, .tmp u]) (hp : tmps.getD p undef = .pointer (some ⟨q, 0, none⟩)) (hr : w.rangeAt q 0 (eP.enc x)) :
    (results fn tmps).run Try.prog w = .ok (.tuple #[pv x, tmps.getD u undef]) w := by
  rw [results_cell_tmp h, hp]
  have := run_loadVar_mid (P := Try.prog) w q 0 37 (eP.enc x) _ hr Try.underlying37 rfl (by kernel_rfl)
  simp only [asAddr, Sem.run_pure, Result.andThen_ok, this]
  rfl
theorem res_pk1 {fn : Func} {p : Tmp} {w : World} {q : Nat} {x : Pk} {tmps : Array Value} (h : fn.results = #[.cell p 37]) (hp : tmps.getD p undef = .pointer (some ⟨q, 0, none⟩)) (hr : w.rangeAt q 0 (eP.enc x)) :
    (results fn tmps).run Try.prog w = .ok (pv x) w := by
  have := run_loadVar_mid (P := Try.prog) w q 0 37 (eP.enc x) _ hr Try.underlying37 rfl (by kernel_rfl)
  have hp' : tmps[p]?.getD undef = .pointer (some ⟨q, 0, none⟩) := by simpa using hp
  simp [results, h, hp', asAddr, this]
  rfl
/-- A whole packet is stored. -/
theorem store_pk {ops : Array Oper} {rest : List Oper} {d : Option Tmp} {ty' : TypeId} {x y : Operand} {ps : String} {af : Array Edge} {a : Act} {w : World} {Q : Exit → Act → World → Prop}
    (q : Nat) (p : Pk) (hx : a.eval x = .pointer (some ⟨q, 0, none⟩)) (hy : a.eval y = pv p) (ht : w.there q 0 4)
    (h : ∀ w2 : World, w2.rangeAt q 0 (eP.enc p) → w2.there q 0 4 → w.grownBy w2 (some q) → wpList Try.prog ops Q rest (a.put d undef) w2) : wpList Try.prog ops Q (⟨d, .store 37 x y, ty', ps, af, none⟩ :: rest) a w :=
  wpList_store_mid rfl 37 x y rfl q 0 #[.int .i64 p.id, .int .i64 p.fm, .int .i64 p.tt, .string p.body] hx hy ht (by kernel_rfl) (by simp [Value.oneCell']) (h _ (World.rangeAt_setCells_same w q 0 _ (by simpa using ht)) (World.there_setCells ht q 0 _) (grown_setCells q _ 0 w))
theorem there_new (w : World) (C : Array Value) (t : TypeId) (h : C.size = 4) {q : Nat} (hq : q = w.heap.size) : (w.alloc (.cells C t)).there q 0 4 := by
  subst hq
  intro j hj
  refine ⟨?_, by simp⟩
  rw [World.cell?_alloc_new, Array.getElem?_eq_getElem (by omega)]
  rfl
theorem there_kept {w w' : World} {q n : Nat} (h : w.there q 0 n) {row : Option Nat} (g : w.grownBy w' row) (hr : row ≠ some q) (hn : 0 < n) : w'.there q 0 n := by
  have hlt : q < w.heap.size := by
    obtain ⟨u, hu⟩ := Option.isSome_iff_exists.1 (h 0 hn).1
    exact World.block_lt_of_cell? w _ hu
  have hb := g.block q hlt (fun e => hr e.symm)
  intro j hj
  have := h j hj
  exact ⟨by rw [World.cell?_of_block (a := ⟨q, 0 + j, none⟩) hb]; exact this.1, by rw [World.frozen?_of_block (a := ⟨q, 0 + j, none⟩) hb]; exact this.2⟩
theorem range_kept {w w' : World} {q o : Nat} {cs : List Value} (h : w.rangeAt q o cs) {row : Option Nat} (g : w.grownBy w' row) (hr : row ≠ some q) : w'.rangeAt q o cs := fun j v hv => by
  have h1 := h j v hv
  have hb := g.block q (World.block_lt_of_cell? w ⟨q, o + j, none⟩ h1) (fun e => hr e.symm)
  rw [World.cell?_of_block (a := ⟨q, o + j, none⟩) hb]
  exact h1
theorem range_new (w : World) (p : Pk) (t : TypeId) {q : Nat} (hq : q = w.heap.size) : (w.alloc (.cells #[.int .i64 p.id, .int .i64 p.fm, .int .i64 p.tt, .string p.body] t)).rangeAt q 0 (eP.enc p) := fun j v hv => by
  rw [Nat.zero_add]
  refine new_at w hq ?_
  rw [← hv]
  simp [eP]
set_option maxRecDepth 100000 in
theorem find_any (b bm : Nat) (v : Value) (s : Ms) (id : Int) (w : World) (h : MeD w b bm v s) :
    Calls Try.prog 26 #[.pointer (some ⟨b, 0, none⟩), .int .i64 id] w fun e w' => e = .returned (.tuple #[.int .i64 (pos s.l id : Nat), .bool (there s.l id)]) ∧ w.grownBy w' none := by
  have BS := bsf_any v s.l id w h.row.rx h.ok.rise h.ok.len
  have c0 := h.c0
  clear h
  go_enter Try.func26, Try.ntmps26
  go_wp2_with (go_at_call 35; (with_reducible refine BS.mono ?_); rintro e w2 ⟨rfl, hg2⟩)
  go_ret2
  exact ⟨rfl, hg2⟩
/-- Its packets have turned. -/
theorem MeD.turn {w w3 : World} {b bm : Nat} {v v' : Value} {s : Ms} {F : Nat → Prop} {l : List Pk} {n : Nat} (h : MeD w b bm v s) (h2 : ∀ k, F k ↔ (k = b ∨ k = bm ∨ v.ownBlock = some k)) (C : Chg (fun k => k = b ∨ v.ownBlock = some k) w w3)
    (c0 : w3.cell? ⟨b, 0, none⟩ = some v') (c1 : w3.cell? ⟨b, 1, none⟩ = some (.map (some bm))) (c2 : w3.cell? ⟨b, 2, none⟩ = some (.int .i64 (n : Int))) (fr : ∀ i, w3.frozen? ⟨b, i, none⟩ = false) (row : eP.Own w3 0 v' l) (hv : ∀ k, v'.ownBlock = some k → v.ownBlock = some k ∨ w.heap.size ≤ k)
    (ok : Ok ⟨l, n, s.cs⟩) (i64 : ∀ p ∈ l, I64 p.fm ∧ I64 p.tt) : ∃ F', Me w3 b ⟨l, n, s.cs⟩ F' ∧ (∀ k, F' k → F k ∨ w.heap.size ≤ k) ∧ Chg F w w3 := by
  have hbm : ¬ (bm = b ∨ v.ownBlock = some bm) := fun c => by
    rcases c with e | e
    · exact h.ne e.symm
    · exact (h.vb bm e).2 rfl
  have hlt := h.lt
  refine ⟨fun k => k = b ∨ k = bm ∨ v'.ownBlock = some k, ⟨bm, v', ⟨c0, c1, c2, fr, row, h.map.kept C hbm, h.ne, fun k hk => ?_, ok, i64⟩, fun _ => Iff.rfl⟩, fun k hk => ?_, C.wide fun k hk => (h2 k).2 ?_⟩
  · rcases hv k hk with e | e
    · exact h.vb k e
    · omega
  · rcases hk with e | e | e
    · exact .inl ((h2 k).2 (.inl e))
    · exact .inl ((h2 k).2 (.inr (.inl e)))
    · rcases hv k e with e | e
      · exact .inl ((h2 k).2 (.inr (.inr e)))
      · exact .inr e
  · rcases hk with e | e
    · exact .inl e
    · exact .inr (.inr e)
set_option maxRecDepth 100000 in
set_option maxHeartbeats 800000 in
theorem take_any (b : Nat) (s : Ms) (F : Nat → Prop) (i : Nat) (p : Pk) (w : World) (h : Me w b s F) (hi : s.l[i]? = some p) :
    Calls Try.prog 28 #[.pointer (some ⟨b, 0, none⟩), .int .i64 (i : Int)] w fun e w' => e = .returned (pv p) ∧ ∃ F', Me w' b (outS s i) F' ∧ (∀ k, F' k → F k ∨ w.heap.size ≤ k) ∧ Chg F w w' := by
  obtain ⟨bm, v, h1, h2⟩ := h
  have hil := (List.getElem?_eq_some_iff.1 hi).1
  have hl := h1.ok.len
  have hlt := h1.lt
  obtain ⟨g, o, c, hv, hr⟩ := range_pk h1.row.rx hi
  have c0 := h1.c0
  have fr0 := h1.fr 0
  have hbn : b ≠ w.heap.size := by omega
  have hbn1 : b ≠ w.heap.size + 1 := by omega
  have hgl : g < w.heap.size := hlt.2.2 g (by rw [hv]; rfl)
  have RW : ∀ o1, (w.alloc o1).rangeAt g (o + i * 4) (eP.enc p) := fun o1 => range_kept hr (World.grownBy_alloc w o1 none) (by simp)
  have DL : ∀ W, w.grownBy W none → _ := fun W g => del_any v s.l i W (h1.row.grown g) hil hl
  have H1 : Hid (MeD w b bm v s) := h1
  have hil2 : i < s.l.length := hil
  have hbl := hlt.1
  have gb : g ≠ b := (h1.vb g (by rw [hv]; rfl)).1
  subst hv
  generalize hn : s.l.length = n at *
  -- behind Delete
  have BH : Hid (∀ (o1 : Obj) (w2 : World), (∃ C t, o1 = .cells C t ∧ C.size = 4) → ((w.alloc o1).alloc (.cells #[.int .i64 p.id, .int .i64 p.fm, .int .i64 p.tt, .string p.body] 37)).grownBy w2 (some g) →
      w2.cell? ⟨b, 0, none⟩ = some (.slice (some ⟨g, o, none⟩) n c) ∧ w2.frozen? ⟨b, 0, none⟩ = false ∧ (∀ u, (w2.setCell ⟨b, 0, none⟩ u).rangeAt (w.heap.size + 1) 0 (eP.enc p)) ∧ (∀ u, (w2.setCell ⟨b, 0, none⟩ u).there w.heap.size 0 4) ∧
      Chg (fun k => k = b ∨ (Value.slice (some ⟨g, o, none⟩) n c).ownBlock = some k) w w2 ∧ w.heap.size + 2 ≤ w2.heap.size) := fun o1 w2 ⟨C, t, hC, hCs⟩ hg => by
    subst hC
    have G0 : w.grownBy ((w.alloc (.cells C t)).alloc (.cells #[.int .i64 p.id, .int .i64 p.fm, .int .i64 p.tt, .string p.body] 37)) none := grown_alloc (World.grownBy_alloc w _ none) _
    have M := H1.out.grown G0
    have nb : (some g) ≠ some b := fun e => gb (by injection e)
    refine ⟨hg.cell M.c0 (fun e => nb e.symm), (World.frozen?_of_block (hg.block b (by have := M.lt.1; omega) (fun e => nb e.symm))).trans (M.fr 0), fun u => ?_, fun u => ?_, ?_, ?_⟩
    · refine range_kept (range_kept (range_new (w.alloc (.cells C t)) p 37 (by simp)) hg (fun e => ?_)) (grown_set _ _ _) (fun e => ?_)
      · injection e with e; omega
      · injection e with e; simp at e; omega
    · refine there_kept (there_kept (there_kept (there_new w C t hCs rfl) (World.grownBy_alloc _ _ none) (by simp) (by omega)) hg (fun e => ?_) (by omega)) (grown_set _ _ _) (fun e => ?_) (by omega)
      · injection e with e; omega
      · injection e with e; simp at e; omega
    · exact (Chg.of G0 (by simp)).grown hg fun k e => .inl (.inr e)
    · have := hg.size; simp at this; omega
  clear h1 hr hi hil hlt
  go_enter Try.func28, Try.ntmps28
  go_wp2_with (first
    | (refine load_pk g (o + i * 4) p rfl (RW _) ?_)
    | (refine load_pk (w.heap.size + 1) 0 p rfl (R3 _) ?_)
    | (refine store_pk w.heap.size p rfl rfl (T3 _) ?_; intro w4 hR4 hT4 hg4)
    | (go_at_call 38; (with_reducible refine (DL _ ?_).mono ?_); (exact grown_alloc (World.grownBy_alloc w _ none) _); rintro e w2 ⟨a2, n2, c2, rfl, hO2, hg2, hb2⟩; obtain ⟨c02, fr02, R3, T3, C2, hs2⟩ := BH.out _ w2 ⟨_, _, rfl, rfl⟩ hg2))
  refine bodyPost_ret (v := pv p) (res_pk1 rfl rfl hR4) rfl ⟨rfl, ?_⟩
  have G3 : w2.grownBy (w2.setCell ⟨b, 0, none⟩ (.slice a2 n2 c2)) (some b) := grown_set _ _ _
  have C4 : Chg (fun k => k = b ∨ (Value.slice (some ⟨g, o, none⟩) n c).ownBlock = some k) w w4 := (C2.grown G3 fun k e => .inl (.inl (by injection e with e; exact e.symm))).grown hg4 fun k e => .inr (by injection e with e; omega)
  have K4 : ∀ i v, (w2.setCell ⟨b, 0, none⟩ (.slice a2 n2 c2)).cell? ⟨b, i, none⟩ = some v → w4.cell? ⟨b, i, none⟩ = some v := fun i v h => hg4.cell h (fun e => by injection e with e; simp at e; omega)
  have nb : some b ≠ some g := fun e => gb (by injection e with e; exact e.symm)
  have M0 := H1.out.grown (grown_alloc (World.grownBy_alloc w (.cells (Value.cells eP.zero) 37) none) (.cells #[.int .i64 p.id, .int .i64 p.fm, .int .i64 p.tt, .string p.body] 37))
  have k1 : w2.cell? ⟨b, 1, none⟩ = some (.map (some bm)) := hg2.cell M0.c1 nb
  have k2 : w2.cell? ⟨b, 2, none⟩ = some (.int .i64 (s.n : Int)) := hg2.cell M0.c2 nb
  have kf : ∀ i, w2.frozen? ⟨b, i, none⟩ = false := fun i => (World.frozen?_of_block (a := ⟨b, i, none⟩) (hg2.block b M0.lt.1 nb)).trans (M0.fr i)
  have MT := H1.out.turn (v' := .slice a2 n2 c2) (l := s.l.eraseIdx i) (n := s.n) h2 C4 (K4 _ _ (set_same c02)) (K4 _ _ (by rw [set_other (by simp)]; exact k1)) (K4 _ _ (by rw [set_other (by simp)]; exact k2)) (fun i => ?_) ?_ (fun k hk => .inl (by rw [← hb2]; exact hk)) (ok_out H1.out.ok i) (fun p hp => H1.out.i64 p ((List.eraseIdx_sublist _ _).subset hp))
  · exact MT
  · rw [World.frozen?_of_block (a := ⟨b, i, none⟩) (hg4.block b (by rw [size_set]; omega) (fun e => by injection e with e; omega)), World.frozen?_setCell]
    exact kf i
  · refine (hO2.but G3 fun k hk e => ?_).but hg4 fun k hk e => ?_
    · rw [hb2] at hk
      injection hk with hk; injection e with e
      simp at hk
      omega
    · rw [hb2] at hk
      injection hk with hk; injection e with e
      simp at hk
      omega
end Go.Proofs.Ytffbaomaiohdiaa
