/- A node in new memory. -/
import Derived.Test.YtdpcebaggldaiaaGRight
import Derived.Deep.MidRow
import Derived.Laws.ResultCell
import Derived.Handy
namespace Go.Proofs.Ytdpcebaggldaiaa
open Go.RowKit Trl
open Rft (Nd Mg)
set_option linter.unusedVariables false
set_option maxRecDepth 10000

theorem grown_setCells (b : Nat) : ∀ (vs : List Value) (o : Nat) (w : World), w.grownBy (w.setCells b o vs) (some b)
  | [], _, w => grown_refl w _
  | v :: r, o, w => grown_more (grown_set w ⟨b, o, none⟩ v) (grown_setCells b r (o + 1) _) (fun _ e => .inl e)
/-- A whole struct is stored: what is known of the world behind it. -/
theorem store_row {P : Program} {ops : Array Oper} {rest : List Oper} {d : Option Tmp} {ty ty' : TypeId} {x y : Operand} {ps : String} {af : Array Edge} {a : Act} {w : World} {Q : Exit → Act → World → Prop}
    (q : Nat) (cells : Array Value) (hx : a.eval x = .pointer (some ⟨q, 0, none⟩)) (hy : a.eval y = .agg cells)
    (ht : w.there q 0 cells.size) (hi : (P.info? ty).map (·.size) = some cells.size) (h1 : cells.all (·.oneCell') = true)
    (h : ∀ w2 : World, w2.rangeAt q 0 cells.toList → w2.there q 0 cells.size → w.grownBy w2 (some q) → wpList P ops Q rest (a.put d undef) w2) : wpList P ops Q (⟨d, .store ty x y, ty', ps, af, none⟩ :: rest) a w :=
  wpList_store_mid rfl ty x y rfl q 0 cells hx hy ht hi h1 (h _ (World.rangeAt_setCells_same w q 0 cells.toList (by simpa using ht)) (World.there_setCells ht q 0 _) (grown_setCells q _ 0 w))
theorem load_row {P : Program} {ops : Array Oper} {rest : List Oper} {d : Option Tmp} {ty ty' : TypeId} {x : Operand} {ps : String} {af : Array Edge} {a : Act} {w : World} {Q : Exit → Act → World → Prop}
    (q o : Nat) (cs : List Value) (t : TypeDesc) (hx : a.eval x = .pointer (some ⟨q, o, none⟩)) (hr : w.rangeAt q o cs) (hu : P.underlying ty = some t) (hd : t.isRow = true) (hi : (P.info? ty).map (·.size) = some cs.length)
    (h : wpList P ops Q rest (a.put d (.agg cs.toArray)) w) : wpList P ops Q (⟨d, .load ty x, ty', ps, af, none⟩ :: rest) a w :=
  wpList_load_mid rfl ty x rfl q o hx cs t hr hu hd hi h
theorem res_row1 {P : Program} {fn : Func} {p : Tmp} {ty : TypeId} {w : World} {q : Nat} {cs : List Value} {tmps : Array Value} {d : TypeDesc} (h : fn.results = #[.cell p ty]) (hp : tmps.getD p undef = .pointer (some ⟨q, 0, none⟩)) (hr : w.rangeAt q 0 cs)
    (hu : P.underlying ty = some d) (hd : d.isRow = true) (hi : (P.info? ty).map (·.size) = some cs.length) : (results fn tmps).run P w = .ok (.agg cs.toArray) w := by
  have := run_loadVar_mid (P := P) w q 0 ty cs d hr hu hd hi
  have hp' : tmps[p]?.getD undef = .pointer (some ⟨q, 0, none⟩) := by simpa using hp
  simp [results, h, hp', asAddr, this]
theorem res_row2 {P : Program} {fn : Func} {p u : Tmp} {ty : TypeId} {w : World} {q : Nat} {cs : List Value} {tmps : Array Value} {d : TypeDesc} (h : fn.results = #[.cell p ty, .tmp u]) (hp : tmps.getD p undef = .pointer (some ⟨q, 0, none⟩)) (hr : w.rangeAt q 0 cs)
    (hu : P.underlying ty = some d) (hd : d.isRow = true) (hi : (P.info? ty).map (·.size) = some cs.length) : (results fn tmps).run P w = .ok (.tuple #[.agg cs.toArray, tmps.getD u undef]) w := by
  rw [results_cell_tmp h, hp]
  have := run_loadVar_mid (P := P) w q 0 ty cs d hr hu hd hi
  simp only [asAddr, Sem.run_pure, Result.andThen_ok, this]
theorem Cs.there {w : World} {b : Nat} {cs : List Value} (h : Cs w b cs) {n : Nat} (hn : n ≤ cs.length) : w.there b 0 n := fun j hj => by
  refine ⟨?_, h.2.1 (0 + j)⟩
  rw [h.1 j cs[j] (List.getElem?_eq_getElem (by omega))]
  rfl
/-- A node in memory of its own. -/
structure Own5 (w : World) (base : Nat) (r : Nd) (V : Sv) (T : Nat → Nat) : Prop where
  c : Row eK w base T 1 V.c.v r.conf
  e : Row eE w base T 1 V.e.v r.l
  v : Row eK w base T 2 V.v.v r.votes
  n : Row eN w base T 3 V.n.v r.next
  m : Row eN w base T 4 V.m.v r.mat
theorem Own5.kept {F : Nat → Prop} {w w' : World} {base : Nat} {r : Nd} {V : Sv} {T : Nat → Nat} (h : Own5 w base r V T) (g : Chg F w w') (hF : ∀ k, base ≤ k → k < w.heap.size → ¬ F k) : Own5 w' base r V T :=
  ⟨h.c.kept g (fun k _ => hF k), h.e.kept g (fun k _ => hF k), h.v.kept g (fun k _ => hF k), h.n.kept g (fun k _ => hF k), h.m.kept g (fun k _ => hF k)⟩
theorem Own5.grown {w w' : World} {base : Nat} {r : Nd} {V : Sv} {T : Nat → Nat} (h : Own5 w base r V T) (g : w.grownBy w' none) : Own5 w' base r V T := h.kept (F := fun _ => False) (Chg.of g (by simp)) (fun _ _ _ => id)
/-- A node is answered in new memory. -/
def Cop (w w' : World) (r : Nd) (e : Ending) : Prop := ∃ V' T, e = .returned (nv r V') ∧ Own5 w' w.heap.size r V' T ∧ w.grownBy w' none
theorem two_nodes {w W : World} {r : Nd} {V : Sv} (g : ((w.alloc (.cells #[.int .i64 r.id, .slice V.c.a V.c.n V.c.c, .int .i64 r.term, .int .i64 r.vote, .int .i64 r.role, .int .i64 r.lead, .int .i64 r.b, .int .i64 r.k, .slice V.e.a V.e.n V.e.c, .string r.snap, .int .i64 r.com, .int .i64 r.left, .int .i64 r.wait, .slice V.v.a V.v.n V.v.c, .slice V.n.a V.n.n V.n.c, .slice V.m.a V.m.n V.m.c] 28)).alloc (.cells #[.int .i64 0, .slice none 0 0, .int .i64 0, .int .i64 0, .int .i64 0, .int .i64 0, .int .i64 0, .int .i64 0, .slice none 0 0, .string ⟨#[]⟩, .int .i64 0, .int .i64 0, .int .i64 0, .slice none 0 0, .slice none 0 0, .slice none 0 0] 28)).grownBy W none) : Cs W w.heap.size (nc r V) ∧ Cs W (w.heap.size + 1) [.int .i64 0, .slice none 0 0, .int .i64 0, .int .i64 0, .int .i64 0, .int .i64 0, .int .i64 0, .int .i64 0, .slice none 0 0, .string ⟨#[]⟩, .int .i64 0, .int .i64 0, .int .i64 0, .slice none 0 0, .slice none 0 0, .slice none 0 0] ∧ w.grownBy W none := by
  have g1 := World.grownBy_alloc (w.alloc (.cells #[.int .i64 r.id, .slice V.c.a V.c.n V.c.c, .int .i64 r.term, .int .i64 r.vote, .int .i64 r.role, .int .i64 r.lead, .int .i64 r.b, .int .i64 r.k, .slice V.e.a V.e.n V.e.c, .string r.snap, .int .i64 r.com, .int .i64 r.left, .int .i64 r.wait, .slice V.v.a V.v.n V.v.c, .slice V.n.a V.n.n V.n.c, .slice V.m.a V.m.n V.m.c] 28)) (.cells #[.int .i64 0, .slice none 0 0, .int .i64 0, .int .i64 0, .int .i64 0, .int .i64 0, .int .i64 0, .int .i64 0, .slice none 0 0, .string ⟨#[]⟩, .int .i64 0, .int .i64 0, .int .i64 0, .slice none 0 0, .slice none 0 0, .slice none 0 0] 28) none
  have e : (w.alloc (.cells #[.int .i64 r.id, .slice V.c.a V.c.n V.c.c, .int .i64 r.term, .int .i64 r.vote, .int .i64 r.role, .int .i64 r.lead, .int .i64 r.b, .int .i64 r.k, .slice V.e.a V.e.n V.e.c, .string r.snap, .int .i64 r.com, .int .i64 r.left, .int .i64 r.wait, .slice V.v.a V.v.n V.v.c, .slice V.n.a V.n.n V.n.c, .slice V.m.a V.m.n V.m.c] 28)).heap.size = w.heap.size + 1 := by simp
  have h2 : Cs W (w.alloc (.cells #[.int .i64 r.id, .slice V.c.a V.c.n V.c.c, .int .i64 r.term, .int .i64 r.vote, .int .i64 r.role, .int .i64 r.lead, .int .i64 r.b, .int .i64 r.k, .slice V.e.a V.e.n V.e.c, .string r.snap, .int .i64 r.com, .int .i64 r.left, .int .i64 r.wait, .slice V.v.a V.v.n V.v.c, .slice V.n.a V.n.n V.n.c, .slice V.m.a V.m.n V.m.c] 28)).heap.size [.int .i64 0, .slice none 0 0, .int .i64 0, .int .i64 0, .int .i64 0, .int .i64 0, .int .i64 0, .int .i64 0, .slice none 0 0, .string ⟨#[]⟩, .int .i64 0, .int .i64 0, .int .i64 0, .slice none 0 0, .slice none 0 0, .slice none 0 0] := ⟨fun j v hv => by rw [Nat.zero_add]; exact cell_kept g j v (by simpa using hv), fun i => frozen_kept g i, by have := g.size; simp at this; simp; omega⟩
  rw [e] at h2
  exact ⟨(box_node (grown_tr g1 g)).1, h2, (box_node (grown_tr g1 g)).2⟩
set_option maxRecDepth 100000 in
set_option maxHeartbeats 3200000 in
theorem copied_any (r : Nd) (V : Sv) (w : World) (h : Rdn w r V) : Calls Try.prog 27 #[nv r V] w fun e w' => Cop w w' r e := by
  have cb := h.cb
  have eb := h.eb
  have vb := h.vb
  have nb := h.nb
  have mb := h.mb
  have K1 : Hid (∀ W, w.grownBy W none → _) := fun W g => cloneK_any _ r.conf W (h.c.grown g) (by omega)
  have K2 : Hid (∀ W, w.grownBy W none → _) := fun W g => cloneE_any _ r.l W (h.e.grown g).rx (by omega)
  have K3 : Hid (∀ W, w.grownBy W none → _) := fun W g => cloneK_any _ r.votes W (h.v.grown g) (by omega)
  have K4 : Hid (∀ W, w.grownBy W none → _) := fun W g => cloneN_any _ r.next W (h.n.grown g) (by omega)
  have K5 : Hid (∀ W, w.grownBy W none → _) := fun W g => cloneN_any _ r.mat W (h.m.grown g) (by omega)
  have BX : Hid (∀ {W : World}, ((w.alloc (.cells #[.int .i64 r.id, .slice V.c.a V.c.n V.c.c, .int .i64 r.term, .int .i64 r.vote, .int .i64 r.role, .int .i64 r.lead, .int .i64 r.b, .int .i64 r.k, .slice V.e.a V.e.n V.e.c, .string r.snap, .int .i64 r.com, .int .i64 r.left, .int .i64 r.wait, .slice V.v.a V.v.n V.v.c, .slice V.n.a V.n.n V.n.c, .slice V.m.a V.m.n V.m.c] 28)).alloc (.cells #[.int .i64 0, .slice none 0 0, .int .i64 0, .int .i64 0, .int .i64 0, .int .i64 0, .int .i64 0, .int .i64 0, .slice none 0 0, .string ⟨#[]⟩, .int .i64 0, .int .i64 0, .int .i64 0, .slice none 0 0, .slice none 0 0, .slice none 0 0] 28)).grownBy W none → Cs W w.heap.size (nc r V) ∧ Cs W (w.heap.size + 1) [.int .i64 0, .slice none 0 0, .int .i64 0, .int .i64 0, .int .i64 0, .int .i64 0, .int .i64 0, .int .i64 0, .slice none 0 0, .string ⟨#[]⟩, .int .i64 0, .int .i64 0, .int .i64 0, .slice none 0 0, .slice none 0 0, .slice none 0 0] ∧ w.grownBy W none) := fun {W} g => two_nodes g
  have B0 := BX.out (grown_refl _ none)
  have GS : Hid (∀ {W : World} (i : Nat) (v : Value), w.grownBy W none → w.grownBy (W.setCell ⟨w.heap.size, i, none⟩ v) none) := fun {W} i v g => grown_more g (grown_set W ⟨w.heap.size, i, none⟩ v) (fun k e => .inr (by injection e with e; simp at e; omega))
  have G0 : Hid (w.grownBy ((w.alloc (.cells #[.int .i64 r.id, .slice V.c.a V.c.n V.c.c, .int .i64 r.term, .int .i64 r.vote, .int .i64 r.role, .int .i64 r.lead, .int .i64 r.b, .int .i64 r.k, .slice V.e.a V.e.n V.e.c, .string r.snap, .int .i64 r.com, .int .i64 r.left, .int .i64 r.wait, .slice V.v.a V.v.n V.v.c, .slice V.n.a V.n.n V.n.c, .slice V.m.a V.m.n V.m.c] 28)).alloc (.cells #[.int .i64 0, .slice none 0 0, .int .i64 0, .int .i64 0, .int .i64 0, .int .i64 0, .int .i64 0, .int .i64 0, .slice none 0 0, .string ⟨#[]⟩, .int .i64 0, .int .i64 0, .int .i64 0, .slice none 0 0, .slice none 0 0, .slice none 0 0] 28)) none) := B0.2.2
  have HB0 : Hid (Cs ((w.alloc (.cells #[.int .i64 r.id, .slice V.c.a V.c.n V.c.c, .int .i64 r.term, .int .i64 r.vote, .int .i64 r.role, .int .i64 r.lead, .int .i64 r.b, .int .i64 r.k, .slice V.e.a V.e.n V.e.c, .string r.snap, .int .i64 r.com, .int .i64 r.left, .int .i64 r.wait, .slice V.v.a V.v.n V.v.c, .slice V.n.a V.n.n V.n.c, .slice V.m.a V.m.n V.m.c] 28)).alloc (.cells #[.int .i64 0, .slice none 0 0, .int .i64 0, .int .i64 0, .int .i64 0, .int .i64 0, .int .i64 0, .int .i64 0, .slice none 0 0, .string ⟨#[]⟩, .int .i64 0, .int .i64 0, .int .i64 0, .slice none 0 0, .slice none 0 0, .slice none 0 0] 28)) w.heap.size (nc r V)) := B0.1
  have HZ0 : Hid (Cs ((w.alloc (.cells #[.int .i64 r.id, .slice V.c.a V.c.n V.c.c, .int .i64 r.term, .int .i64 r.vote, .int .i64 r.role, .int .i64 r.lead, .int .i64 r.b, .int .i64 r.k, .slice V.e.a V.e.n V.e.c, .string r.snap, .int .i64 r.com, .int .i64 r.left, .int .i64 r.wait, .slice V.v.a V.v.n V.v.c, .slice V.n.a V.n.n V.n.c, .slice V.m.a V.m.n V.m.c] 28)).alloc (.cells #[.int .i64 0, .slice none 0 0, .int .i64 0, .int .i64 0, .int .i64 0, .int .i64 0, .int .i64 0, .int .i64 0, .slice none 0 0, .string ⟨#[]⟩, .int .i64 0, .int .i64 0, .int .i64 0, .slice none 0 0, .slice none 0 0, .slice none 0 0] 28)) (w.heap.size + 1) [.int .i64 0, .slice none 0 0, .int .i64 0, .int .i64 0, .int .i64 0, .int .i64 0, .int .i64 0, .int .i64 0, .slice none 0 0, .string ⟨#[]⟩, .int .i64 0, .int .i64 0, .int .i64 0, .slice none 0 0, .slice none 0 0, .slice none 0 0]) := B0.2.1
  have z0 := B0.1.at_ 1 rfl
  have zf := B0.1.2.1 1
  have zs : ((w.alloc (.cells #[.int .i64 r.id, .slice V.c.a V.c.n V.c.c, .int .i64 r.term, .int .i64 r.vote, .int .i64 r.role, .int .i64 r.lead, .int .i64 r.b, .int .i64 r.k, .slice V.e.a V.e.n V.e.c, .string r.snap, .int .i64 r.com, .int .i64 r.left, .int .i64 r.wait, .slice V.v.a V.v.n V.v.c, .slice V.n.a V.n.n V.n.c, .slice V.m.a V.m.n V.m.c] 28)).alloc (.cells #[.int .i64 0, .slice none 0 0, .int .i64 0, .int .i64 0, .int .i64 0, .int .i64 0, .int .i64 0, .int .i64 0, .slice none 0 0, .string ⟨#[]⟩, .int .i64 0, .int .i64 0, .int .i64 0, .slice none 0 0, .slice none 0 0, .slice none 0 0] 28)).heap.size = w.heap.size + 2 := by simp
  have ZS : Hid (w.heap.size + 2 ≤ ((w.alloc (.cells #[.int .i64 r.id, .slice V.c.a V.c.n V.c.c, .int .i64 r.term, .int .i64 r.vote, .int .i64 r.role, .int .i64 r.lead, .int .i64 r.b, .int .i64 r.k, .slice V.e.a V.e.n V.e.c, .string r.snap, .int .i64 r.com, .int .i64 r.left, .int .i64 r.wait, .slice V.v.a V.v.n V.v.c, .slice V.n.a V.n.n V.n.c, .slice V.m.a V.m.n V.m.c] 28)).alloc (.cells #[.int .i64 0, .slice none 0 0, .int .i64 0, .int .i64 0, .int .i64 0, .int .i64 0, .int .i64 0, .int .i64 0, .slice none 0 0, .string ⟨#[]⟩, .int .i64 0, .int .i64 0, .int .i64 0, .slice none 0 0, .slice none 0 0, .slice none 0 0] 28)).heap.size) := by rw [zs]; exact Nat.le_refl _
  clear h cb eb vb nb mb B0 zs BX
  go_enter Try.func27, Try.ntmps27
  go_upto_region 1 with fail
  generalize (w.alloc (.cells #[.int .i64 r.id, .slice V.c.a V.c.n V.c.c, .int .i64 r.term, .int .i64 r.vote, .int .i64 r.role, .int .i64 r.lead, .int .i64 r.b, .int .i64 r.k, .slice V.e.a V.e.n V.e.c, .string r.snap, .int .i64 r.com, .int .i64 r.left, .int .i64 r.wait, .slice V.v.a V.v.n V.v.c, .slice V.n.a V.n.n V.n.c, .slice V.m.a V.m.n V.m.c] 28)).alloc (.cells #[.int .i64 0, .slice none 0 0, .int .i64 0, .int .i64 0, .int .i64 0, .int .i64 0, .int .i64 0, .int .i64 0, .slice none 0 0, .string ⟨#[]⟩, .int .i64 0, .int .i64 0, .int .i64 0, .slice none 0 0, .slice none 0 0, .slice none 0 0] 28) = w0 at *
  generalize hq : w.heap.size = q at *
  go_upto_region 2 with (go_at_call 47; (with_reducible refine (K1.out _ G0.out).mono ?_); rintro e w1 ⟨s1, rfl, o1, g1⟩; have b1 := HB0.out.grown g1; have y1 := b1.at_ 1 rfl; have f1 := b1.2.1 1)
  have c1 := chg_setb (Chg.refl (fun k => k = q) w1) q 1 (.slice s1.a s1.n s1.c) rfl
  have gg1 := grown_set w1 ⟨q, 1, none⟩ (.slice s1.a s1.n s1.c)
  have ez1 := size_set w1 ⟨q, 1, none⟩ (.slice s1.a s1.n s1.c)
  have bb1 := b1.set 1 (.slice s1.a s1.n s1.c)
  have zz1 := (HZ0.out.grown g1).kept c1 (by omega)
  have GN1 := GS.out 1 (.slice s1.a s1.n s1.c) (grown_tr G0.out g1)
  have sz1 := g1.size
  have lt1 := o1.lt
  have on1 := o1.but gg1 (fun x hx e => by have := (lt1 x hx).1; have := ZS.out; injection e with e; simp at e; omega)
  generalize hv1 : w1.setCell ⟨q, 1, none⟩ (.slice s1.a s1.n s1.c) = v1 at *
  have G1 : Hid (w.grownBy v1 none) := GN1
  have HB1 : Hid (Cs v1 q _) := bb1
  have HZ1 : Hid (Cs v1 (q + 1) _) := zz1
  have U1 : Hid (∀ x, (Value.slice s1.a s1.n s1.c).ownBlock = some x → w0.heap.size ≤ x ∧ x < v1.heap.size) := fun x hx => by have := lt1 x hx; omega
  have SZ1 : Hid (w0.heap.size ≤ v1.heap.size) := by show _ ≤ _; omega
  have O1 : Hid (eK.Own v1 w0.heap.size (.slice s1.a s1.n s1.c) r.conf) := on1
  clear c1 gg1 ez1 bb1 zz1 GN1 sz1 lt1 on1 o1 g1 b1 y1 f1 hv1 K1 G0 HB0 HZ0
  have u1 := HB1.out.at_ 8 rfl
  go_upto_region 3 with (go_at_call 48; (with_reducible refine (K2.out _ G1.out).mono ?_); rintro e w2 ⟨s2, rfl, o2, g2⟩; have b2 := HB1.out.grown g2; have y2 := b2.at_ 8 rfl; have f2 := b2.2.1 8)
  have c2 := chg_setb (Chg.refl (fun k => k = q) w2) q 8 (.slice s2.a s2.n s2.c) rfl
  have gg2 := grown_set w2 ⟨q, 8, none⟩ (.slice s2.a s2.n s2.c)
  have ez2 := size_set w2 ⟨q, 8, none⟩ (.slice s2.a s2.n s2.c)
  have bb2 := b2.set 8 (.slice s2.a s2.n s2.c)
  have zz2 := (HZ1.out.grown g2).kept c2 (by omega)
  have GN2 := GS.out 8 (.slice s2.a s2.n s2.c) (grown_tr G1.out g2)
  have sz2 := g2.size
  have lt2 := o2.lt
  have oo1_2 := (O1.out.grown g2).but gg2 (fun x hx e => by have := (U1.out x hx).1; have := ZS.out; have := SZ1.out; injection e with e; simp at e; omega)
  have on2 := o2.but gg2 (fun x hx e => by have := (lt2 x hx).1; have := ZS.out; have := HB1.out.2.2; have := SZ1.out; injection e with e; simp at e; omega)
  generalize hv2 : w2.setCell ⟨q, 8, none⟩ (.slice s2.a s2.n s2.c) = v2 at *
  have G2 : Hid (w.grownBy v2 none) := GN2
  have HB2 : Hid (Cs v2 q _) := bb2
  have HZ2 : Hid (Cs v2 (q + 1) _) := zz2
  have U2 : Hid (∀ x, (Value.slice s2.a s2.n s2.c).ownBlock = some x → v1.heap.size ≤ x ∧ x < v2.heap.size) := fun x hx => by have := lt2 x hx; omega
  have SZ2 : Hid (v1.heap.size ≤ v2.heap.size) := by show _ ≤ _; omega
  have O2 : Hid (eE.Own v2 v1.heap.size (.slice s2.a s2.n s2.c) r.l) := on2
  have O1 : Hid (eK.Own v2 w0.heap.size (.slice s1.a s1.n s1.c) r.conf) := oo1_2
  clear c2 gg2 ez2 bb2 zz2 GN2 sz2 lt2 on2 o2 g2 b2 y2 f2 hv2 K2 G1 HB1 HZ1 oo1_2
  have u2 := HB2.out.at_ 13 rfl
  go_upto_region 4 with (go_at_call 47; (with_reducible refine (K3.out _ G2.out).mono ?_); rintro e w3 ⟨s3, rfl, o3, g3⟩; have b3 := HB2.out.grown g3; have y3 := b3.at_ 13 rfl; have f3 := b3.2.1 13)
  have c3 := chg_setb (Chg.refl (fun k => k = q) w3) q 13 (.slice s3.a s3.n s3.c) rfl
  have gg3 := grown_set w3 ⟨q, 13, none⟩ (.slice s3.a s3.n s3.c)
  have ez3 := size_set w3 ⟨q, 13, none⟩ (.slice s3.a s3.n s3.c)
  have bb3 := b3.set 13 (.slice s3.a s3.n s3.c)
  have zz3 := (HZ2.out.grown g3).kept c3 (by omega)
  have GN3 := GS.out 13 (.slice s3.a s3.n s3.c) (grown_tr G2.out g3)
  have sz3 := g3.size
  have lt3 := o3.lt
  have oo1_3 := (O1.out.grown g3).but gg3 (fun x hx e => by have := (U1.out x hx).1; have := ZS.out; have := SZ1.out; have := SZ2.out; injection e with e; simp at e; omega)
  have oo2_3 := (O2.out.grown g3).but gg3 (fun x hx e => by have := (U2.out x hx).1; have := ZS.out; have := SZ1.out; have := SZ2.out; injection e with e; simp at e; omega)
  have on3 := o3.but gg3 (fun x hx e => by have := (lt3 x hx).1; have := ZS.out; have := HB2.out.2.2; have := SZ1.out; have := SZ2.out; injection e with e; simp at e; omega)
  generalize hv3 : w3.setCell ⟨q, 13, none⟩ (.slice s3.a s3.n s3.c) = v3 at *
  have G3 : Hid (w.grownBy v3 none) := GN3
  have HB3 : Hid (Cs v3 q _) := bb3
  have HZ3 : Hid (Cs v3 (q + 1) _) := zz3
  have U3 : Hid (∀ x, (Value.slice s3.a s3.n s3.c).ownBlock = some x → v2.heap.size ≤ x ∧ x < v3.heap.size) := fun x hx => by have := lt3 x hx; omega
  have SZ3 : Hid (v2.heap.size ≤ v3.heap.size) := by show _ ≤ _; omega
  have O3 : Hid (eK.Own v3 v2.heap.size (.slice s3.a s3.n s3.c) r.votes) := on3
  have O1 : Hid (eK.Own v3 w0.heap.size (.slice s1.a s1.n s1.c) r.conf) := oo1_3
  have O2 : Hid (eE.Own v3 v1.heap.size (.slice s2.a s2.n s2.c) r.l) := oo2_3
  clear c3 gg3 ez3 bb3 zz3 GN3 sz3 lt3 on3 o3 g3 b3 y3 f3 hv3 K3 G2 HB2 HZ2 oo1_3 oo2_3
  have u3 := HB3.out.at_ 14 rfl
  go_upto_region 5 with (go_at_call 49; (with_reducible refine (K4.out _ G3.out).mono ?_); rintro e w4 ⟨s4, rfl, o4, g4⟩; have b4 := HB3.out.grown g4; have y4 := b4.at_ 14 rfl; have f4 := b4.2.1 14)
  have c4 := chg_setb (Chg.refl (fun k => k = q) w4) q 14 (.slice s4.a s4.n s4.c) rfl
  have gg4 := grown_set w4 ⟨q, 14, none⟩ (.slice s4.a s4.n s4.c)
  have ez4 := size_set w4 ⟨q, 14, none⟩ (.slice s4.a s4.n s4.c)
  have bb4 := b4.set 14 (.slice s4.a s4.n s4.c)
  have zz4 := (HZ3.out.grown g4).kept c4 (by omega)
  have GN4 := GS.out 14 (.slice s4.a s4.n s4.c) (grown_tr G3.out g4)
  have sz4 := g4.size
  have lt4 := o4.lt
  have oo1_4 := (O1.out.grown g4).but gg4 (fun x hx e => by have := (U1.out x hx).1; have := ZS.out; have := SZ1.out; have := SZ2.out; have := SZ3.out; injection e with e; simp at e; omega)
  have oo2_4 := (O2.out.grown g4).but gg4 (fun x hx e => by have := (U2.out x hx).1; have := ZS.out; have := SZ1.out; have := SZ2.out; have := SZ3.out; injection e with e; simp at e; omega)
  have oo3_4 := (O3.out.grown g4).but gg4 (fun x hx e => by have := (U3.out x hx).1; have := ZS.out; have := SZ1.out; have := SZ2.out; have := SZ3.out; injection e with e; simp at e; omega)
  have on4 := o4.but gg4 (fun x hx e => by have := (lt4 x hx).1; have := ZS.out; have := HB3.out.2.2; have := SZ1.out; have := SZ2.out; have := SZ3.out; injection e with e; simp at e; omega)
  generalize hv4 : w4.setCell ⟨q, 14, none⟩ (.slice s4.a s4.n s4.c) = v4 at *
  have G4 : Hid (w.grownBy v4 none) := GN4
  have HB4 : Hid (Cs v4 q _) := bb4
  have HZ4 : Hid (Cs v4 (q + 1) _) := zz4
  have U4 : Hid (∀ x, (Value.slice s4.a s4.n s4.c).ownBlock = some x → v3.heap.size ≤ x ∧ x < v4.heap.size) := fun x hx => by have := lt4 x hx; omega
  have SZ4 : Hid (v3.heap.size ≤ v4.heap.size) := by show _ ≤ _; omega
  have O4 : Hid (eN.Own v4 v3.heap.size (.slice s4.a s4.n s4.c) r.next) := on4
  have O1 : Hid (eK.Own v4 w0.heap.size (.slice s1.a s1.n s1.c) r.conf) := oo1_4
  have O2 : Hid (eE.Own v4 v1.heap.size (.slice s2.a s2.n s2.c) r.l) := oo2_4
  have O3 : Hid (eK.Own v4 v2.heap.size (.slice s3.a s3.n s3.c) r.votes) := oo3_4
  clear c4 gg4 ez4 bb4 zz4 GN4 sz4 lt4 on4 o4 g4 b4 y4 f4 hv4 K4 G3 HB3 HZ3 oo1_4 oo2_4 oo3_4
  have u4 := HB4.out.at_ 15 rfl
  go_upto_region 6 with (go_at_call 49; (with_reducible refine (K5.out _ G4.out).mono ?_); rintro e w5 ⟨s5, rfl, o5, g5⟩; have b5 := HB4.out.grown g5; have y5 := b5.at_ 15 rfl; have f5 := b5.2.1 15)
  have c5 := chg_setb (Chg.refl (fun k => k = q) w5) q 15 (.slice s5.a s5.n s5.c) rfl
  have gg5 := grown_set w5 ⟨q, 15, none⟩ (.slice s5.a s5.n s5.c)
  have ez5 := size_set w5 ⟨q, 15, none⟩ (.slice s5.a s5.n s5.c)
  have bb5 := b5.set 15 (.slice s5.a s5.n s5.c)
  have zz5 := (HZ4.out.grown g5).kept c5 (by omega)
  have GN5 := GS.out 15 (.slice s5.a s5.n s5.c) (grown_tr G4.out g5)
  have sz5 := g5.size
  have lt5 := o5.lt
  have oo1_5 := (O1.out.grown g5).but gg5 (fun x hx e => by have := (U1.out x hx).1; have := ZS.out; have := SZ1.out; have := SZ2.out; have := SZ3.out; have := SZ4.out; injection e with e; simp at e; omega)
  have oo2_5 := (O2.out.grown g5).but gg5 (fun x hx e => by have := (U2.out x hx).1; have := ZS.out; have := SZ1.out; have := SZ2.out; have := SZ3.out; have := SZ4.out; injection e with e; simp at e; omega)
  have oo3_5 := (O3.out.grown g5).but gg5 (fun x hx e => by have := (U3.out x hx).1; have := ZS.out; have := SZ1.out; have := SZ2.out; have := SZ3.out; have := SZ4.out; injection e with e; simp at e; omega)
  have oo4_5 := (O4.out.grown g5).but gg5 (fun x hx e => by have := (U4.out x hx).1; have := ZS.out; have := SZ1.out; have := SZ2.out; have := SZ3.out; have := SZ4.out; injection e with e; simp at e; omega)
  have on5 := o5.but gg5 (fun x hx e => by have := (lt5 x hx).1; have := ZS.out; have := HB4.out.2.2; have := SZ1.out; have := SZ2.out; have := SZ3.out; have := SZ4.out; injection e with e; simp at e; omega)
  generalize hv5 : w5.setCell ⟨q, 15, none⟩ (.slice s5.a s5.n s5.c) = v5 at *
  have G5 : Hid (w.grownBy v5 none) := GN5
  have HB5 : Hid (Cs v5 q _) := bb5
  have HZ5 : Hid (Cs v5 (q + 1) _) := zz5
  have U5 : Hid (∀ x, (Value.slice s5.a s5.n s5.c).ownBlock = some x → v4.heap.size ≤ x ∧ x < v5.heap.size) := fun x hx => by have := lt5 x hx; omega
  have SZ5 : Hid (v4.heap.size ≤ v5.heap.size) := by show _ ≤ _; omega
  have O5 : Hid (eN.Own v5 v4.heap.size (.slice s5.a s5.n s5.c) r.mat) := on5
  have O1 : Hid (eK.Own v5 w0.heap.size (.slice s1.a s1.n s1.c) r.conf) := oo1_5
  have O2 : Hid (eE.Own v5 v1.heap.size (.slice s2.a s2.n s2.c) r.l) := oo2_5
  have O3 : Hid (eK.Own v5 v2.heap.size (.slice s3.a s3.n s3.c) r.votes) := oo3_5
  have O4 : Hid (eN.Own v5 v3.heap.size (.slice s4.a s4.n s4.c) r.next) := oo4_5
  clear c5 gg5 ez5 bb5 zz5 GN5 sz5 lt5 on5 o5 g5 b5 y5 f5 hv5 K5 G4 HB4 HZ4 oo1_5 oo2_5 oo3_5 oo4_5
  have RG : v5.rangeAt q 0 (nc r { c := s1, e := s2, v := s3, n := s4, m := s5 }) := HB5.out.1
  have TH : v5.there (q + 1) 0 16 := HZ5.out.there (by decide)
  go_wp2_with (first
    | (refine load_row (ty := 28) q 0 (nc r { c := s1, e := s2, v := s3, n := s4, m := s5 }) _ rfl RG Try.underlying28 rfl (by kernel_rfl) ?_)
    | (refine store_row (ty := 28) (q + 1) (nc r { c := s1, e := s2, v := s3, n := s4, m := s5 }).toArray rfl rfl TH (by kernel_rfl) (by simp [Value.oneCell']) ?_; intro w6 hr6 ht6 hg6))
  have us := fun (P : Nat → Prop) => P
  refine bodyPost_ret (res_row1 Try.results27 rfl hr6 Try.underlying28 rfl (by kernel_rfl)) rfl ⟨{ c := s1, e := s2, v := s3, n := s4, m := s5 }, fun k => if k < v2.heap.size then 1 else if k < v3.heap.size then 2 else if k < v4.heap.size then 3 else 4, rfl, ?_, ?_⟩
  · have z1 := SZ1.out
    have z2 := SZ2.out
    have z3 := SZ3.out
    have z4 := SZ4.out
    have z5 := SZ5.out
    have zz := ZS.out
    refine ⟨.inl ⟨(O1.out.low (by omega)).but hg6 (fun x hx e => by have := (U1.out x hx).1; injection e with e; omega), fun x hx => ?_⟩, .inl ⟨(O2.out.low (by omega)).but hg6 (fun x hx e => by have := (U2.out x hx).1; injection e with e; omega), fun x hx => ?_⟩, .inl ⟨(O3.out.low (by omega)).but hg6 (fun x hx e => by have := (U3.out x hx).1; injection e with e; omega), fun x hx => ?_⟩, .inl ⟨(O4.out.low (by omega)).but hg6 (fun x hx e => by have := (U4.out x hx).1; injection e with e; omega), fun x hx => ?_⟩, .inl ⟨(O5.out.low (by omega)).but hg6 (fun x hx e => by have := (U5.out x hx).1; injection e with e; omega), fun x hx => ?_⟩⟩
    · have := U1.out x hx
      dsimp only
      rw [if_pos (by omega)]
    · have := U2.out x hx
      dsimp only
      rw [if_pos (by omega)]
    · have := U3.out x hx
      dsimp only
      rw [if_neg (by omega), if_pos (by omega)]
    · have := U4.out x hx
      dsimp only
      rw [if_neg (by omega), if_neg (by omega), if_pos (by omega)]
    · have := U5.out x hx
      dsimp only
      rw [if_neg (by omega), if_neg (by omega), if_neg (by omega)]
  · exact grown_more G5.out hg6 (fun k e => .inr (by injection e with e; omega))
/-- A new object: the node, no message. -/
theorem Oc.start {w w1 : World} {base b : Nat} {r : Nd} {V : Sv} {T : Nat → Nat} (h : Own5 w base r V T) (g : w.grownBy w1 none) (hb : w.heap.size ≤ b) (hbase : base ≤ w.heap.size) (hc : Cs w1 b (oc r V nil3)) : Oc w1 base b r [] V nil3 (fun k => if k < w.heap.size then T k else 0) := by
  have ht := fun k hk => (if_pos hk : (if k < w.heap.size then T k else 0) = T k)
  have h1 : Own5 w base r V (fun k => if k < w.heap.size then T k else 0) := ⟨h.c.retag ht, h.e.retag ht, h.v.retag ht, h.n.retag ht, h.m.retag ht⟩
  have h2 := h1.grown g
  exact ⟨by omega, if_neg (by omega), hc, h2.c, h2.e, h2.v, h2.n, h2.m, ⟨Elm.nil _ _, fun k hk => by cases hk⟩, fun x hx => by cases hx⟩
set_option maxRecDepth 100000 in
set_option maxHeartbeats 1600000 in
theorem begin_any (r : Nd) (V : Sv) (w : World) (h : Rdn w r V) : Calls Try.prog 13 #[nv r V] w fun e w' => ∃ b c, e = .returned (.pointer (some ⟨b, 0, none⟩)) ∧ Ob w' w.heap.size b r [] c ∧ w.grownBy w' none := by
  have CP : Hid (∀ W, w.grownBy W none → _) := fun W g => copied_any r V W (h.grown g)
  have B0 := box_node (grown_refl (w.alloc (.cells #[.int .i64 r.id, .slice V.c.a V.c.n V.c.c, .int .i64 r.term, .int .i64 r.vote, .int .i64 r.role, .int .i64 r.lead, .int .i64 r.b, .int .i64 r.k, .slice V.e.a V.e.n V.e.c, .string r.snap, .int .i64 r.com, .int .i64 r.left, .int .i64 r.wait, .slice V.v.a V.v.n V.v.c, .slice V.n.a V.n.n V.n.c, .slice V.m.a V.m.n V.m.c] 28)) none)
  have q0 := B0.1.at_ 0 rfl
  have q1 := B0.1.at_ 1 rfl
  have q2 := B0.1.at_ 2 rfl
  have q3 := B0.1.at_ 3 rfl
  have q4 := B0.1.at_ 4 rfl
  have q5 := B0.1.at_ 5 rfl
  have q6 := B0.1.at_ 6 rfl
  have q7 := B0.1.at_ 7 rfl
  have q8 := B0.1.at_ 8 rfl
  have q9 := B0.1.at_ 9 rfl
  have q10 := B0.1.at_ 10 rfl
  have q11 := B0.1.at_ 11 rfl
  have q12 := B0.1.at_ 12 rfl
  have q13 := B0.1.at_ 13 rfl
  have q14 := B0.1.at_ 14 rfl
  have q15 := B0.1.at_ 15 rfl
  have G0 : Hid (w.grownBy (w.alloc (.cells #[.int .i64 r.id, .slice V.c.a V.c.n V.c.c, .int .i64 r.term, .int .i64 r.vote, .int .i64 r.role, .int .i64 r.lead, .int .i64 r.b, .int .i64 r.k, .slice V.e.a V.e.n V.e.c, .string r.snap, .int .i64 r.com, .int .i64 r.left, .int .i64 r.wait, .slice V.v.a V.v.n V.v.c, .slice V.n.a V.n.n V.n.c, .slice V.m.a V.m.n V.m.c] 28)) none) := B0.2
  clear h B0
  go_enter Try.func13, Try.ntmps13
  go_wp2_with (go_at_call 27; (with_reducible refine (CP.out _ G0.out).mono ?_); rintro e w1 ⟨V1, T1, rfl, o1, g1⟩)
  go_ret
  have hz := g1.size
  have hz0 := G0.out.size
  have ga := World.grownBy_alloc w1 (.cells (oc r V1 nil3).toArray 52) none
  have hc : Cs (w1.alloc (.cells (oc r V1 nil3).toArray 52)) w1.heap.size (oc r V1 nil3) := ⟨fun j v hv => by rw [Nat.zero_add]; exact cell_kept (grown_refl _ none) j v (by simpa using hv), fun i => frozen_kept (grown_refl _ none) i, by simp⟩
  have O := Oc.start o1 ga (Nat.le_refl _) hz hc
  have O' : Oc (w1.alloc (.cells (oc r V1 nil3).toArray 52)) w.heap.size w1.heap.size r [] V1 nil3 (fun k => if k < w1.heap.size then T1 k else 0) := ⟨by omega, O.tb, O.cs, O.c.low hz0, O.e.low hz0, O.v.low hz0, O.n.low hz0, O.m.low hz0, ⟨O.l.1.low hz0, O.l.2⟩, fun x hx => by cases hx⟩
  exact ⟨w1.heap.size, V1.c, rfl, ⟨[], V1, nil3, _, O', rfl, rfl⟩, grown_alloc (grown_tr G0.out g1) _⟩
end Go.Proofs.Ytdpcebaggldaiaa
