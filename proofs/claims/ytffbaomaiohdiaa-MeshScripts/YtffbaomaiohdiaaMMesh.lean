/- A mesh in memory. New, pairOf, isCut, Cut, Join. -/
import Derived.Test.YtffbaomaiohdiaaMMap
import Derived.Handy
import Derived.Carry
import Derived.Deep.RegionHeld3
namespace Go.Proofs.Ytffbaomaiohdiaa
open Go.RowKit Msh
set_option linter.unusedVariables false
set_option maxRecDepth 10000

def eP : Elm Pk where
  el := 37
  sl := 27
  size := 4
  bytes := 40
  zero := .agg #[.int .i64 0, .int .i64 0, .int .i64 0, .string ⟨#[]⟩]
  enc := fun p => [.int .i64 p.id, .int .i64 p.fm, .int .i64 p.tt, .string p.body]
  hu := Try.underlying27
  hi := by kernel_rfl
  hz := rfl
  hs := by decide
  len := fun _ => rfl
  one := by intro x v hv; simp at hv; rcases hv with rfl | rfl | rfl | rfl <;> rfl
  he := by kernel_rfl
  so := fun W => Try.sizeOf37 W
/-- A packet as a value. -/
abbrev pv (p : Pk) : Value := .agg #[.int .i64 p.id, .int .i64 p.fm, .int .i64 p.tt, .string p.body]
/-- A whole packet is loaded. -/
theorem load_pk {ops : Array Oper} {rest : List Oper} {d : Option Tmp} {ty' : TypeId} {x : Operand} {ps : String} {af : Array Edge} {a : Act} {w : World} {Q : Exit → Act → World → Prop}
    (q o : Nat) (p : Pk) (hx : a.eval x = .pointer (some ⟨q, o, none⟩)) (hr : w.rangeAt q o (eP.enc p))
    (h : wpList Try.prog ops Q rest (a.put d (pv p)) w) : wpList Try.prog ops Q (⟨d, .load 37 x, ty', ps, af, none⟩ :: rest) a w :=
  wpList_load_mid rfl 37 x rfl q o hx (eP.enc p) _ hr Try.underlying37 rfl (by kernel_rfl) h
theorem range_pk {w : World} {v : Value} {l : List Pk} {i : Nat} {p : Pk} (h : eP.Rx w v l) (hi : l[i]? = some p) : ∃ g o c, v = .slice (some ⟨g, o, none⟩) l.length c ∧ w.rangeAt g (o + i * 4) (eP.enc p) := by
  obtain ⟨g, o, c, h1, h2⟩ := h.at_ hi
  exact ⟨g, o, c, h1, h2⟩
/-- A mesh in memory at block b: its packets' slice, its map's block. -/
structure MeD (w : World) (b bm : Nat) (v : Value) (s : Ms) : Prop where
  c0 : w.cell? ⟨b, 0, none⟩ = some v
  c1 : w.cell? ⟨b, 1, none⟩ = some (.map (some bm))
  c2 : w.cell? ⟨b, 2, none⟩ = some (.int .i64 (s.n : Int))
  fr : ∀ i, w.frozen? ⟨b, i, none⟩ = false
  row : eP.Own w 0 v s.l
  map : MapC w bm s.cs
  ne : b ≠ bm
  vb : ∀ k, v.ownBlock = some k → k ≠ b ∧ k ≠ bm
  ok : Ok s
  i64 : ∀ p ∈ s.l, I64 p.fm ∧ I64 p.tt
/-- A mesh in memory, with its blocks. -/
def Me (w : World) (b : Nat) (s : Ms) (F : Nat → Prop) : Prop := ∃ bm v, MeD w b bm v s ∧ ∀ k, F k ↔ (k = b ∨ k = bm ∨ v.ownBlock = some k)
theorem MeD.kept {F : Nat → Prop} {w w' : World} {b bm : Nat} {v : Value} {s : Ms} (h : MeD w b bm v s) (g : Chg F w w') (hb : ¬ F b) (hm : ¬ F bm) (hv : ∀ k, v.ownBlock = some k → ¬ F k) : MeD w' b bm v s :=
  ⟨g.cell h.c0 hb, g.cell h.c1 hb, g.cell h.c2 hb, fun i => (g.frozen (a := ⟨b, i, none⟩) (World.block_lt_of_cell? w ⟨b, 0, none⟩ h.c0) hb).trans (h.fr i), h.row.kept g hv, h.map.kept g hm, h.ne, h.vb, h.ok, h.i64⟩
theorem Me.kept {F G : Nat → Prop} {w w' : World} {b : Nat} {s : Ms} (h : Me w b s F) (g : Chg G w w') (hG : ∀ k, F k → ¬ G k) : Me w' b s F := by
  obtain ⟨bm, v, h1, h2⟩ := h
  exact ⟨bm, v, h1.kept g (hG _ ((h2 _).2 (.inl rfl))) (hG _ ((h2 _).2 (.inr (.inl rfl)))) (fun k hk => hG _ ((h2 _).2 (.inr (.inr hk)))), h2⟩
theorem MeD.grown {w w' : World} {b bm : Nat} {v : Value} {s : Ms} (h : MeD w b bm v s) (g : w.grownBy w' none) : MeD w' b bm v s := h.kept (F := fun _ => False) (Chg.of g (by simp)) id id (fun _ _ => id)
theorem Me.grown {w w' : World} {b : Nat} {s : Ms} {F : Nat → Prop} (h : Me w b s F) (g : w.grownBy w' none) : Me w' b s F := h.kept (G := fun _ => False) (Chg.of g (by simp)) (fun _ _ => id)
theorem MeD.lt {w : World} {b bm : Nat} {v : Value} {s : Ms} (h : MeD w b bm v s) : b < w.heap.size ∧ bm < w.heap.size ∧ ∀ k, v.ownBlock = some k → k < w.heap.size :=
  ⟨World.block_lt_of_cell? w _ h.c0, h.map.lt, fun k hk => (h.row.lt k hk).2⟩
theorem Me.lt {w : World} {b : Nat} {s : Ms} {F : Nat → Prop} (h : Me w b s F) : ∀ k, F k → k < w.heap.size := by
  obtain ⟨bm, v, h1, h2⟩ := h
  intro k hk
  rcases (h2 k).1 hk with e | e | e
  · rw [e]; exact h1.lt.1
  · rw [e]; exact h1.lt.2.1
  · exact h1.lt.2.2 k e
theorem Me.ok {w : World} {b : Nat} {s : Ms} {F : Nat → Prop} (h : Me w b s F) : Ok s := by obtain ⟨bm, v, h1, _⟩ := h; exact h1.ok
theorem Me.i64 {w : World} {b : Nat} {s : Ms} {F : Nat → Prop} (h : Me w b s F) : ∀ p ∈ s.l, I64 p.fm ∧ I64 p.tt := by obtain ⟨bm, v, h1, _⟩ := h; exact h1.i64

set_option maxRecDepth 100000 in
theorem new_ok (w : World) : Calls Try.prog 8 #[] w fun e w' => ∃ b F, e = .returned (.pointer (some ⟨b, 0, none⟩)) ∧ Me w' b ⟨[], 0, []⟩ F ∧ (∀ k, F k → w.heap.size ≤ k) ∧ w.grownBy w' none := by
  have hM := mapC_new w
  have hmm := @run_makeMap Try.prog
  go_enter Try.func8, Try.ntmps8
  go_wp2
  go_ret
  generalize hw1 : w.alloc (Obj.map #[] 0) = w1 at hM ⊢
  have hs1 : w1.heap.size = w.heap.size + 1 := by rw [← hw1]; simp
  have g1 : w.grownBy w1 none := by rw [← hw1]; exact World.grownBy_alloc w _ none
  have g2 := World.grownBy_alloc w1 (Obj.cells #[Value.slice none 0 0, Value.map (some w.heap.size), Value.int .i64 0] 52) none
  refine ⟨w.heap.size + 1, fun k => k = w.heap.size + 1 ∨ k = w.heap.size, rfl, ⟨w.heap.size, .slice none 0 0, ⟨?_, ?_, ?_, fun i => ?_, Elm.nil _ _, hM.grown g2 (by simp), by omega, by simp [Value.ownBlock], ok_new, by simp⟩, fun k => by simp [Value.ownBlock]⟩, fun k hk => by omega, grown_more g1 g2 (by simp)⟩
  · exact new_at w1 hs1.symm rfl
  · exact new_at w1 hs1.symm rfl
  · exact new_at w1 hs1.symm rfl
  · rw [← hs1]; simp
set_option maxRecDepth 100000 in
theorem pairOf_any (a b : Int) (w : World) : Calls Try.prog 32 #[.int .i64 a, .int .i64 b] w fun e w' => e = .returned (.agg #[.int .i64 (min a b), .int .i64 (max a b)]) ∧ w.grownBy w' none := by
  have r1 : ∀ x y x' y' : Int, x = x' → y = y' → Ending.returned (Value.agg #[.int .i64 x, .int .i64 y]) = .returned (.agg #[.int .i64 x', .int .i64 y']) := by rintro x y x' y' rfl rfl; rfl
  go_enter Try.func32, Try.ntmps32
  go_wp2
  all_goals go_returns
  all_goals exact ⟨r1 _ _ _ _ (by omega) (by omega), World.grownBy_alloc w _ none⟩
/-- What holds of each world on isCut's way. -/
structure Seen (w0 : World) (b bm : Nat) (q : Nat) (f t : Int) (c : Bool) (W : World) : Prop where
  gr : w0.grownBy W none
  c1 : W.cell? ⟨b, 1, none⟩ = some (.map (some bm))
  f1 : W.cell? ⟨q, 1, none⟩ = some (.int .i64 f)
  t1 : W.cell? ⟨q, 2, none⟩ = some (.int .i64 t)
  lk : (Instr.lookup 50 (.map (some bm)) (.agg #[.int .i64 (min f t), .int .i64 (max f t)]) true).run Try.prog W = .ok (.tuple #[.agg #[], .bool c]) W
set_option maxRecDepth 100000 in
set_option maxHeartbeats 1600000 in
theorem isCut_any (b bm : Nat) (v : Value) (s : Ms) (p : Pk) (w : World) (h : MeD w b bm v s) (hf : I64 p.fm) (ht : I64 p.tt) :
    Calls Try.prog 27 #[.pointer (some ⟨b, 0, none⟩), pv p] w fun e w' => e = .returned (.bool (isCut s.cs p.fm p.tt)) ∧ w.grownBy w' none := by
  generalize hq : w.heap.size = q
  have KS : ∀ W, (w.alloc (.cells #[.int .i64 p.id, .int .i64 p.fm, .int .i64 p.tt, .string p.body] 37)).grownBy W none → Seen (w.alloc (.cells #[.int .i64 p.id, .int .i64 p.fm, .int .i64 p.tt, .string p.body] 37)) b bm q p.fm p.tt (isCut s.cs p.fm p.tt) W := fun W g => by
    have h1 := (h.grown (World.grownBy_alloc w _ none)).grown g
    exact ⟨g, h1.c1, g.cell (new_at w hq.symm rfl) (by simp), g.cell (new_at w hq.symm rfl) (by simp), h1.map.look hf ht⟩
  have PA := pairOf_any p.fm p.tt
  clear h
  go_enter Try.func27, Try.ntmps27
  go_wp2
  generalize hw1 : w.alloc (.cells #[.int .i64 p.id, .int .i64 p.fm, .int .i64 p.tt, .string p.body] 37) = w1 at *
  have gw : w.grownBy w1 none := by rw [← hw1]; exact World.grownBy_alloc w _ none
  have H1 : Hid (w.grownBy w1 none) := gw
  clear hw1 gw hq
  have SK0 : ∀ W, w1.grownBy W none → w1.grownBy W none ∧ W.cell? ⟨b, 1, none⟩ = some (.map (some bm)) ∧ W.cell? ⟨q, 1, none⟩ = some (.int .i64 p.fm) ∧ W.cell? ⟨q, 2, none⟩ = some (.int .i64 p.tt) ∧ (Instr.lookup 50 (.map (some bm)) (.agg #[.int .i64 (min p.fm p.tt), .int .i64 (max p.fm p.tt)]) true).run Try.prog W = .ok (.tuple #[.agg #[], .bool (isCut s.cs p.fm p.tt)]) W := fun W g => by
    have K1 := KS W g
    exact ⟨K1.gr, K1.c1, K1.f1, K1.t1, K1.lk⟩
  have SK : Hid _ := SK0
  clear KS SK0
  go_region_held3 (fun W => w1.grownBy W none ∧ W.cell? ⟨b, 1, none⟩ = some (.map (some bm)) ∧ W.cell? ⟨q, 1, none⟩ = some (.int .i64 p.fm) ∧ W.cell? ⟨q, 2, none⟩ = some (.int .i64 p.tt) ∧ (Instr.lookup 50 (.map (some bm)) (.agg #[.int .i64 (min p.fm p.tt), .int .i64 (max p.fm p.tt)]) true).run Try.prog W = .ok (.tuple #[.agg #[], .bool (isCut s.cs p.fm p.tt)]) W)
    (first | (refine SK.out _ ?_; repeat (first | assumption | (with_reducible exact grown_refl _ _) | (with_reducible refine grown_drew ?_) | (with_reducible refine grown_alloc ?_ _) | (with_reducible exact And.left ‹_›))))
    (first | (go_at_call 32; (with_reducible refine (PA _).mono ?_); rintro e w2 ⟨rfl, hg2⟩; have hg3 : w1.grownBy w2 none := (by refine grown_more ?_ hg2 (by simp); repeat (first | assumption | (with_reducible exact grown_refl _ _) | (with_reducible refine grown_drew ?_) | (with_reducible refine grown_alloc ?_ _) | (with_reducible exact And.left ‹_›)))))
  all_goals go_wp2
  all_goals go_ret
  all_goals refine ⟨rfl, grown_tr H1.out ?_⟩
  all_goals repeat (first | assumption | (with_reducible refine grown_alloc ?_ _))
/-- Its map has turned, nothing else of it. -/
theorem MeD.cuts {w w2 w3 : World} {b bm : Nat} {v : Value} {s : Ms} {F : Nat → Prop} {cs : List (Int × Int)} (h : MeD w b bm v s) (g : w.grownBy w2 none) (g2 : w2.grownBy w3 (some bm)) (hM : MapC w3 bm cs) (h2 : ∀ k, F k ↔ (k = b ∨ k = bm ∨ v.ownBlock = some k)) : Me w3 b ⟨s.l, s.n, cs⟩ F ∧ Chg F w w3 := by
  have h1 := h.grown g
  have C : Chg (fun k => k = bm) w2 w3 := Chg.of g2 fun k e => by injection e with e; exact e.symm
  refine ⟨⟨bm, v, ⟨C.cell h1.c0 h1.ne, C.cell h1.c1 h1.ne, C.cell h1.c2 h1.ne, fun i => (C.frozen (a := ⟨b, i, none⟩) h1.lt.1 h1.ne).trans (h1.fr i), h1.row.kept C (fun k hk => (h1.vb k hk).2), hM, h1.ne, h1.vb, ok_cs h1.ok cs, h1.i64⟩, h2⟩, ?_⟩
  exact (Chg.of (F := F) g (by simp)).grown g2 fun k e => .inl ((h2 k).2 (.inr (.inl (by injection e with e; exact e.symm))))
set_option maxRecDepth 100000 in
set_option maxHeartbeats 1600000 in
theorem cut_any (b : Nat) (s : Ms) (F : Nat → Prop) (x y : Int) (w : World) (h : Me w b s F) (hx : I64 x) (hy : I64 y) (hl : s.cs.length ≤ 1000000) :
    Calls Try.prog 19 #[.pointer (some ⟨b, 0, none⟩), .int .i64 x, .int .i64 y] w fun e w' => e = .returned (.tuple #[]) ∧ Me w' b ⟨s.l, s.n, cutL s.cs x y⟩ F ∧ Chg F w w' := by
  obtain ⟨bm, v, h1, h2⟩ := h
  have PA := pairOf_any x y
  have c1 := h1.c1
  have H1 : Hid (MeD w b bm v s) := h1
  clear h1
  go_enter Try.func19, Try.ntmps19
  go_wp2
  go_region_with (go_at_call 32; (with_reducible refine (PA _).mono ?_); rintro e w2 ⟨rfl, hg2⟩; have hg3 : w.grownBy w2 none := (by (with_reducible refine grown_more ?_ hg2 (by simp)); repeat (first | (with_reducible exact grown_refl _ _) | (with_reducible refine grown_drew ?_) | (with_reducible refine grown_drewN ?_ _) | (with_reducible refine grown_alloc ?_ _))); clear hg2; have c12 := hg3.cell c1 (by simp); obtain ⟨w3, hr3, hM3, hg4, hs4⟩ := (H1.out.map.grown hg3 (by simp)).put hx hy hl)
  all_goals go_wp2
  all_goals go_end0
  all_goals exact ⟨rfl, H1.out.cuts hg3 hg4 hM3 h2⟩
set_option maxRecDepth 100000 in
set_option maxHeartbeats 1600000 in
theorem join_any (b : Nat) (s : Ms) (F : Nat → Prop) (x y : Int) (w : World) (h : Me w b s F) (hx : I64 x) (hy : I64 y) :
    Calls Try.prog 21 #[.pointer (some ⟨b, 0, none⟩), .int .i64 x, .int .i64 y] w fun e w' => e = .returned (.tuple #[]) ∧ Me w' b ⟨s.l, s.n, joinL s.cs x y⟩ F ∧ Chg F w w' := by
  obtain ⟨bm, v, h1, h2⟩ := h
  have PA := pairOf_any x y
  have c1 := h1.c1
  have H1 : Hid (MeD w b bm v s) := h1
  clear h1
  go_enter Try.func21, Try.ntmps21
  go_wp2
  go_region_with (go_at_call 32; (with_reducible refine (PA _).mono ?_); rintro e w2 ⟨rfl, hg2⟩; have hg3 : w.grownBy w2 none := (by (with_reducible refine grown_more ?_ hg2 (by simp)); repeat (first | (with_reducible exact grown_refl _ _) | (with_reducible refine grown_drew ?_) | (with_reducible refine grown_drewN ?_ _) | (with_reducible refine grown_alloc ?_ _))); clear hg2; have c12 := hg3.cell c1 (by simp); obtain ⟨w3, hr3, hM3, hg4, hs4⟩ := (H1.out.map.grown hg3 (by simp)).del hx hy 0)
  all_goals go_wp2
  all_goals go_end0
  all_goals exact ⟨rfl, H1.out.cuts hg3 hg4 hM3 h2⟩
end Go.Proofs.Ytffbaomaiohdiaa
