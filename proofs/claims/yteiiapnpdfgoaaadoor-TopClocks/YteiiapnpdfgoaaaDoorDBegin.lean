/- What 'begin', 'allowed' answer. -/
import Derived.Test.YteiiapnpdfgoaaaDoorDFirst
import Derived.Test.YteiiapnpdfgoaaaDoorKFive
import Derived.Laws.ResultCell
import Derived.Deep.CutRange
namespace Go.Proofs.YteiiapnpdfgoaaaDoor
open Go.RowKit
set_option linter.unusedVariables false

theorem parse_every : parV (Cro.parse [42, 32, 42, 32, 42, 32, 42, 32, 42]) = .tuple #[crv Due.every, .int .i64 0, .int .i64 0] := by kernel_rfl
theorem allowed_any (t : Int) (w : World) : Calls Tryd.prog 21 #[.int .i64 t] w fun e w' => e = .returned (.bool (decide (-1 ≤ t ∧ t ≤ 226157759))) ∧ w' = w := by
  by_cases h : -1 ≤ t
  · go_enter Tryd.func21, Tryd.ntmps21
    go_wp2
    go_ret
    exact ⟨ret_bool (by simp [h]), rfl⟩
  · go_enter Tryd.func21, Tryd.ntmps21
    go_wp2
    go_ret
    exact ⟨ret_bool (by simp; omega), rfl⟩
/-- A zone that was never asked. -/
structure Zf (w : World) (b : Nat) (z : Zon.Z) : Prop extends Zr w b z where
  state : w.cell? ⟨b, 10, none⟩ = some (.int .u32 0) ∧ w.cell? ⟨b, 11, none⟩ = some (.int .i32 0) ∧ w.cell? ⟨b, 13, none⟩ = some (.slice none 0 0)
theorem Zf.zn {w : World} {b : Nat} {z : Zon.Z} (h : Zf w b z) : Zn w b z := ⟨h.toZr, .inl h.state⟩
theorem Zf.kept {w w' : World} {b : Nat} {z : Zon.Z} {row : Option Nat} (h : Zf w b z) (g : w.grownBy w' row) (hr : row ≠ some b) : Zf w' b z := by
  have hb := World.block_lt_of_cell? w _ h.c1
  have hr' : some b ≠ row := fun e => hr e.symm
  refine ⟨⟨g.cell h.c0 hr', g.cell h.c1 hr', g.cell h.c2 hr', g.cell h.c3 hr', g.cell h.c4 hr', g.cell h.c5 hr', g.cell h.c6 hr', g.cell h.c7 hr', g.cell h.c8 hr', g.cell h.c9 hr', fun i => ?_⟩, ?_⟩
  · exact (frozen_grown g (a := ⟨b, i, none⟩) hb hr').trans (h.free i)
  · exact ⟨g.cell h.state.1 hr', g.cell h.state.2.1 hr', g.cell h.state.2.2 hr'⟩
set_option maxRecDepth 100000 in
set_option maxHeartbeats 400000 in
theorem make_fresh (z : Zon.Z) (h : z.ok) (w : World) :
    Calls Tryd.prog 9 #[zon z] w fun e w' => ∃ b, e = .returned (.tuple #[.pointer (some ⟨b, 0, none⟩), .int .i64 0]) ∧ w.grownBy w' none ∧ w.heap.size ≤ b ∧ b < w'.heap.size ∧ Zf w' b z := by
  have hnot : ∀ (x : Bool) (w : World), (Op.unary .not (.bool x)).run Tryd.prog w = .ok (.bool (!x)) w := fun _ _ => rfl
  have R := right_any z
  rw [decide_eq_true h] at R
  clear h
  obtain ⟨b, s, ⟨m1, k1, d1, a1⟩, ⟨m2, k2, d2, a2⟩⟩ := z
  simp only [zon] at R ⊢
  go_enter Tryd.func9, Tryd.ntmps9
  go_wp2_with (go_at_call 23; go_must (refine (R _).mono ?_); rintro e w1 ⟨rfl, hg1⟩; have c0 := cell_kept hg1 0 _ rfl; have c1 := cell_kept hg1 1 _ rfl; have c2 := cell_kept hg1 2 _ rfl; have c3 := cell_kept hg1 3 _ rfl; have c4 := cell_kept hg1 4 _ rfl; have c5 := cell_kept hg1 5 _ rfl; have c6 := cell_kept hg1 6 _ rfl; have c7 := cell_kept hg1 7 _ rfl; have c8 := cell_kept hg1 8 _ rfl; have c9 := cell_kept hg1 9 _ rfl)
  have hs := size_kept hg1
  have hg := grown_more (World.grownBy_alloc w _ none) hg1 (by simp)
  go_ret2
  refine ⟨w1.heap.size, rfl, grown_alloc hg _, by omega, by simp, ?_⟩
  refine ⟨?_, ?_⟩
  · constructor <;> try (rw [World.cell?_alloc_new]; rfl)
    intro i; simp
  · exact ⟨by rw [World.cell?_alloc_new]; rfl, by rw [World.cell?_alloc_new]; rfl, by rw [World.cell?_alloc_new]; rfl⟩
/-- The zero search. -/
abbrev sea0c : Array Value := #[.pointer none, .int .u64 0, .int .u64 0, .int .u64 0, .int .u64 0, .int .u64 0, .bool false, .bool false, .int .u64 0, .int .u64 0, .int .u64 0, .int .u64 0, .int .u64 0, .bool false, .bool false, .int .u64 0, .int .u64 0, .int .u64 0, .int .u64 0, .int .u64 0, .bool false, .bool false, .int .u64 0, .int .u64 0, .int .u64 0, .int .u64 0, .int .u64 0, .bool false, .bool false]
theorem sea0_one : sea0c.all (·.oneCell') = true := by kernel_rfl
theorem grown_setCells (b : Nat) : ∀ (vs : List Value) (o : Nat) (w : World), w.grownBy (w.setCells b o vs) (some b)
  | [], _, w => grown_refl w _
  | v :: r, o, w => grown_more (grown_set w ⟨b, o, none⟩ v) (grown_setCells b r (o + 1) _) (fun _ e => .inl e)
/-- A whole struct is stored: what is known of the world behind it. -/
theorem store_row {P : Program} {ops : Array Oper} {rest : List Oper} {d : Option Tmp} {ty ty' : TypeId} {x y : Operand} {ps : String} {af : Array Edge} {a : Act} {w : World} {Q : Exit → Act → World → Prop}
    (q : Nat) (cells : Array Value) (hx : a.eval x = .pointer (some ⟨q, 0, none⟩)) (hy : a.eval y = .agg cells)
    (ht : w.there q 0 cells.size) (hi : (P.info? ty).map (·.size) = some cells.size) (h1 : cells.all (·.oneCell') = true)
    (h : ∀ w2 : World, w2.rangeAt q 0 cells.toList → w2.there q 0 cells.size → w.grownBy w2 (some q) → wpList P ops Q rest (a.put d undef) w2) : wpList P ops Q (⟨d, .store ty x y, ty', ps, af, none⟩ :: rest) a w :=
  wpList_store_mid rfl ty x y rfl q 0 cells hx hy ht hi h1 (h _ (World.rangeAt_setCells_same w q 0 cells.toList (by simpa using ht)) (World.there_setCells ht q 0 _) (grown_setCells q _ 0 w))
/-- A whole struct is loaded. -/
theorem load_row {P : Program} {ops : Array Oper} {rest : List Oper} {d : Option Tmp} {ty ty' : TypeId} {x : Operand} {ps : String} {af : Array Edge} {a : Act} {w : World} {Q : Exit → Act → World → Prop}
    (q o : Nat) (cs : List Value) (t : TypeDesc) (hx : a.eval x = .pointer (some ⟨q, o, none⟩)) (hr : w.rangeAt q o cs) (hu : P.underlying ty = some t) (hd : t.isRow = true) (hi : (P.info? ty).map (·.size) = some cs.length)
    (h : wpList P ops Q rest (a.put d (.agg cs.toArray)) w) : wpList P ops Q (⟨d, .load ty x, ty', ps, af, none⟩ :: rest) a w :=
  wpList_load_mid rfl ty x rfl q o hx cs t hr hu hd hi h
theorem there_kept {w w1 : World} {C : Array Value} {t : TypeId} (hg : (w.alloc (.cells C t)).grownBy w1 none) : w1.there w.heap.size 0 C.size := fun j hj => by
  refine ⟨?_, frozen_kept hg (0 + j)⟩
  rw [cell_kept hg (0 + j) C[j] (by rw [Nat.zero_add]; exact Array.getElem?_eq_getElem hj)]
  rfl
theorem ten_kept {w w1 : World} {a b c d e f g h i j : Value} {t : TypeId} {o : Obj} (hg : ((w.alloc (.cells #[a, b, c, d, e, f, g, h, i, j] t)).alloc o).grownBy w1 none) :
    w1.cell? ⟨w.heap.size, 0, none⟩ = some a ∧ w1.cell? ⟨w.heap.size, 1, none⟩ = some b ∧ w1.cell? ⟨w.heap.size, 2, none⟩ = some c ∧ w1.cell? ⟨w.heap.size, 3, none⟩ = some d ∧ w1.cell? ⟨w.heap.size, 4, none⟩ = some e ∧
    w1.cell? ⟨w.heap.size, 5, none⟩ = some f ∧ w1.cell? ⟨w.heap.size, 6, none⟩ = some g ∧ w1.cell? ⟨w.heap.size, 7, none⟩ = some h ∧ w1.cell? ⟨w.heap.size, 8, none⟩ = some i ∧ w1.cell? ⟨w.heap.size, 9, none⟩ = some j :=
  ⟨cell_kept2 hg 0 _ rfl, cell_kept2 hg 1 _ rfl, cell_kept2 hg 2 _ rfl, cell_kept2 hg 3 _ rfl, cell_kept2 hg 4 _ rfl, cell_kept2 hg 5 _ rfl, cell_kept2 hg 6 _ rfl, cell_kept2 hg 7 _ rfl, cell_kept2 hg 8 _ rfl, cell_kept2 hg 9 _ rfl⟩
theorem there_new (w : World) (o : Obj) (C : Array Value) (t : TypeId) : ((w.alloc o).alloc (.cells C t)).there (w.heap.size + 1) 0 C.size := by
  have := there_kept (grown_refl ((w.alloc o).alloc (.cells C t)) none)
  simpa only [World.size_alloc] using this
theorem range_set {w : World} {b i : Nat} {cs : List Value} {v : Value} (h : w.rangeAt b 0 cs) : (w.setCell ⟨b, i, none⟩ v).rangeAt b 0 (cs.set i v) := fun j x hx => by
  by_cases e : i = j
  · subst e
    have hl : i < cs.length := by obtain ⟨h1, _⟩ := List.getElem?_eq_some_iff.mp hx; simpa using h1
    rw [List.getElem?_set_self hl] at hx
    injection hx with hx
    subst hx
    rw [Nat.zero_add]
    have hc := h i _ (List.getElem?_eq_getElem hl)
    rw [Nat.zero_add] at hc
    exact World.cell?_setCell_same _ _ _ hc
  · rw [List.getElem?_set_ne e] at hx
    rw [World.cell?_setCell_other _ _ _ _ (by simp)]
    exact h j x hx
theorem res_range {fn : Func} {p u : Tmp} {w : World} {q : Nat} {cs : List Value} {tmps : Array Value} (h : fn.results = #[.cell p 63, .tmp u]) (hp : tmps.getD p undef = .pointer (some ⟨q, 0, none⟩)) (hr : w.rangeAt q 0 cs) (hl : cs.length = 29) :
    (results fn tmps).run Tryd.prog w = .ok (.tuple #[.agg cs.toArray, tmps.getD u undef]) w := by
  rw [results_cell_tmp h, hp]
  have := run_loadVar_mid (P := Tryd.prog) w q 0 63 cs _ hr Tryd.underlying63 rfl (by rw [hl]; kernel_rfl)
  simp only [asAddr, Sem.run_pure, Result.andThen_ok, this]

set_option maxRecDepth 100000 in
set_option maxHeartbeats 3200000 in
theorem begin_arg (c : Cro.C) (hc : c.ok) (hr : ¬ c.right) (z : Zon.Z) (w : World) (hG : Gl w) :
    Calls Tryd.prog 20 #[crv c, zon z] w fun e w' => e = .returned (.tuple #[.agg sea0c, .int .i64 1]) ∧ w.grownBy w' none := by
  have hnot : ∀ (x : Bool) (w : World), (Op.unary .not (.bool x)).run Tryd.prog w = .ok (.bool (!x)) w := fun _ _ => rfl
  have CK := Check_any c hc
  rw [decide_eq_false hr] at CK
  have K3 := fun o1 o2 o3 => grown_alloc (grown_alloc (World.grownBy_alloc w o1 none) o2) o3
  go_enter Tryd.func20, Tryd.ntmps20
  go_wp2_with (first
    | (go_at_call 7; go_must (refine (CK _ (hG.kept (K3 _ _ _))).mono ?_); rintro e w1 ⟨rfl, hg1⟩; have th := there_kept hg1; simp only [World.size_alloc] at th)
    | (refine store_row (ty := 63) _ sea0c rfl rfl th (by kernel_rfl) sea0_one ?_; intro w2 hr2 _ hg2))
  refine bodyPost_ret (res_range Tryd.results20 rfl hr2 rfl) rfl ⟨rfl, ?_⟩
  exact grown_more (grown_more (K3 _ _ _) hg1 (by simp)) hg2 (fun b e => .inr (by injection e with e; omega))

set_option maxRecDepth 100000 in
set_option maxHeartbeats 3200000 in
theorem begin_zone (c : Cro.C) (hc : c.ok) (hr : c.right) (z : Zon.Z) (hz : ¬ z.ok) (w : World) (hG : Gl w) :
    Calls Tryd.prog 20 #[crv c, zon z] w fun e w' => e = .returned (.tuple #[.agg sea0c, .int .i64 40]) ∧ w.grownBy w' none := by
  have hnot : ∀ (x : Bool) (w : World), (Op.unary .not (.bool x)).run Tryd.prog w = .ok (.bool (!x)) w := fun _ _ => rfl
  have CK := Check_any c hc
  rw [decide_eq_true hr] at CK
  have MB := make_bad z hz
  have K3 := fun o1 o2 o3 => grown_alloc (grown_alloc (World.grownBy_alloc w o1 none) o2) o3
  go_enter Tryd.func20, Tryd.ntmps20
  go_wp2_with (first
    | (go_at_call 7; go_must (refine (CK _ (hG.kept (K3 _ _ _))).mono ?_); rintro e w1 ⟨rfl, hg1⟩; have zk := ten_kept hg1; simp only [World.size_alloc] at zk; obtain ⟨c0, c1, c2, c3, c4, c5, c6, c7, c8, c9⟩ := zk)
    | (go_at_call 9; go_must (refine (MB _).mono ?_); rintro e w3 ⟨rfl, hg3⟩; have hg13 := grown_more hg1 hg3 (by simp); have th := there_kept hg13; simp only [World.size_alloc] at th)
    | (refine store_row (ty := 63) _ sea0c rfl rfl th (by kernel_rfl) sea0_one ?_; intro w2 hr2 _ hg2))
  refine bodyPost_ret (res_range Tryd.results20 rfl hr2 rfl) rfl ⟨rfl, ?_⟩
  exact grown_more (grown_more (K3 _ _ _) hg13 (by simp)) hg2 (fun b e => .inr (by injection e with e; omega))

theorem everyc : crv Due.every = .agg #[.int .u64 1152921504606846975, .int .u64 16777215, .int .u64 4294967294, .int .u64 8190, .int .u64 127, .bool true, .bool true] := by kernel_rfl
abbrev evl : List Value := [.int .u64 1152921504606846975, .int .u64 16777215, .int .u64 4294967294, .int .u64 8190, .int .u64 127, .bool true, .bool true]
abbrev crl (c : Cro.C) : List Value := [.int .u64 c.mi, .int .u64 c.ho, .int .u64 c.da, .int .u64 c.mo, .int .u64 c.we, .bool c.ad, .bool c.aw]
/-- The search as it is first laid. -/
abbrev sel (b : Nat) (c : Cro.C) : List Value := [.pointer (some ⟨b, 0, none⟩), .int .u64 c.mi, .int .u64 c.ho, .int .u64 c.da, .int .u64 c.mo, .int .u64 c.we, .bool c.ad, .bool c.aw, .int .u64 c.mi, .int .u64 c.ho, .int .u64 c.da, .int .u64 c.mo, .int .u64 c.we, .bool c.ad, .bool c.aw, .int .u64 c.mi, .int .u64 c.ho, .int .u64 c.da, .int .u64 c.mo, .int .u64 c.we, .bool c.ad, .bool c.aw, .int .u64 1152921504606846975, .int .u64 16777215, .int .u64 4294967294, .int .u64 8190, .int .u64 127, .bool true, .bool true]
/-- The search as it is handed on. -/
abbrev sfl (b : Nat) (c : Cro.C) : List Value := [.pointer (some ⟨b, 0, none⟩), .int .u64 c.mi, .int .u64 c.ho, .int .u64 c.da, .int .u64 c.mo, .int .u64 c.we, .bool c.ad, .bool c.aw, .int .u64 1152921504606846975, .int .u64 c.ho, .int .u64 c.da, .int .u64 c.mo, .int .u64 c.we, .bool c.ad, .bool c.aw, .int .u64 1152921504606846975, .int .u64 16777215, .int .u64 c.da, .int .u64 c.mo, .int .u64 c.we, .bool c.ad, .bool c.aw, .int .u64 1152921504606846975, .int .u64 16777215, .int .u64 4294967294, .int .u64 c.mo, .int .u64 127, .bool true, .bool true]
theorem sfl_is (b : Nat) (c : Cro.C) : Value.agg (sfl b c).toArray = seav b c (Due.wideH c) (Due.wideD c) (Due.wideM c) := by kernel_rfl
theorem grown_drew {w w' : World} {r : Option Nat} (h : w.grownBy w' r) : w.grownBy w'.drew r := ⟨h.os, h.tape, h.output, h.size, h.block⟩
theorem range_kept {w w1 : World} {C : List Value} {t : TypeId} (hg : (w.alloc (.cells C.toArray t)).grownBy w1 none) : w1.rangeAt w.heap.size 0 C := fun j v hv => by
  rw [Nat.zero_add]
  exact cell_kept hg j v (by simpa using hv)
theorem range_grown {w w1 : World} {b o : Nat} {C : List Value} {row : Option Nat} (h : w.rangeAt b o C) (hg : w.grownBy w1 row) (hr : row ≠ some b) : w1.rangeAt b o C := fun j v hv => hg.cell (h j v hv) (fun e => hr e.symm)
set_option maxRecDepth 100000 in
set_option maxHeartbeats 3200000 in
theorem begin_ok (c : Cro.C) (hc : c.ok) (hr : c.right) (z : Zon.Z) (hz : z.ok) (w : World) (hG : Gl w) :
    Calls Tryd.prog 20 #[crv c, zon z] w fun e w' => ∃ b, e = .returned (.tuple #[seav b c (Due.wideH c) (Due.wideD c) (Due.wideM c), .int .i64 0]) ∧ w.grownBy w' none ∧ w.heap.size ≤ b ∧ Zn w' b z := by
  have hnot : ∀ (x : Bool) (w : World), (Op.unary .not (.bool x)).run Tryd.prog w = .ok (.bool (!x)) w := fun _ _ => rfl
  have CK := Check_any c hc
  rw [decide_eq_true hr] at CK
  have MO := make_fresh z hz
  have PE : ∀ w, Gl w → Calls Tryd.prog 16 #[.string ⟨#[42, 32, 42, 32, 42, 32, 42, 32, 42]⟩] w fun e w' => e = .returned (.tuple #[.agg #[.int .u64 1152921504606846975, .int .u64 16777215, .int .u64 4294967294, .int .u64 8190, .int .u64 127, .bool true, .bool true], .int .i64 0, .int .i64 0]) ∧ w.grownBy w' none := fun w hG => by
    have := Parse_any ⟨#[42, 32, 42, 32, 42, 32, 42, 32, 42]⟩ w hG
    rw [show parV (Cro.parse (⟨#[42, 32, 42, 32, 42, 32, 42, 32, 42]⟩ : ByteArray).data.toList) = _ from parse_every, everyc] at this
    exact this
  have K3 := fun o1 o2 o3 => grown_alloc (grown_alloc (World.grownBy_alloc w o1 none) o2) o3
  go_enter Tryd.func20, Tryd.ntmps20
  go_upto_region 6 with (first
    | (go_at_call 7; go_must (refine (CK _ (hG.kept (K3 _ _ _))).mono ?_); rintro e w1 ⟨rfl, hg1⟩; have zk := ten_kept hg1; simp only [World.size_alloc] at zk; obtain ⟨c0, c1, c2, c3, c4, c5, c6, c7, c8, c9⟩ := zk; have k1 := grown_more (K3 _ _ _) hg1 (by simp))
    | (go_at_call 9; go_must (refine (MO _).mono ?_); rintro e w2 ⟨b, rfl, hg2, hb1, hb2, hZ2⟩; clear c0 c1 c2 c3 c4 c5 c6 c7 c8 c9; have k2 := grown_more k1 hg2 (by simp)))
  have kx : ∀ w3, w2.grownBy w3 none → (((w.alloc (.cells (crl c).toArray 24)).alloc (.cells #[.int .i64 z.b, .int .i64 z.s, .int .i64 z.on.m, .int .i64 z.on.k, .int .i64 z.on.d, .int .i64 z.on.a, .int .i64 z.off.m, .int .i64 z.off.k, .int .i64 z.off.d, .int .i64 z.off.a] 33)).alloc (.cells sea0c 63)).grownBy w3 none := fun w3 h => grown_more (grown_more hg1 hg2 (by simp)) h (by simp)
  have hbw : w.heap.size + 3 ≤ b := by have := hg1.size; simp at this; omega
  have KX : Hid _ := kx
  have HZ2 : Hid _ := hZ2
  clear kx hg1 k1 hZ2 CK MO hc hr hz
  go_cut [8, 9, 10] from 12 to 52 (fun s8 s9 s10 wx => ∃ A : Nat, s8 = .pointer (some ⟨A, 0, none⟩) ∧ s9 = .int .i64 0 ∧ s10 = .int .i64 0 ∧ wx.rangeAt A 0 evl ∧ w2.grownBy wx none ∧ w2.heap.size ≤ A ∧ A < wx.heap.size)
  case first =>
    go_wp2_with (go_at_call 16; go_must (refine (PE _ (hG.kept k2)).mono ?_); rintro e w3 ⟨rfl, hg3⟩)
    go_meet
    exact ⟨w3.heap.size, rfl, rfl, rfl, range_kept (grown_refl _ none), grown_alloc hg3 _, hg3.size, by simp⟩
  case rest =>
    obtain ⟨A, rfl, rfl, rfl, hrA, hgx, hA1, hA2⟩ := hcut
    have rc : wc.rangeAt w.heap.size 0 (crl c) := range_kept (grown_more (grown_alloc (World.grownBy_alloc _ _ none) _) (KX.out wc hgx) (by simp))
    go_upto_region 7 with fail
    go_cut [11] from 12 to 52 (fun s11 wx => ∃ B : Nat, s11 = .pointer (some ⟨B, 0, none⟩) ∧ wx.rangeAt B 0 (sel b c) ∧ wx.there B 0 29 ∧ wx.rangeAt A 0 evl ∧ w2.grownBy wx none ∧ wc.heap.size ≤ B)
    case first =>
      go_wp2_with (first
        | (refine load_row (ty := 24) w.heap.size 0 (crl c) _ rfl rc Tryd.underlying24 rfl (by kernel_rfl) ?_)
        | (refine load_row (ty := 24) A 0 evl _ rfl hrA Tryd.underlying24 rfl (by kernel_rfl) ?_)
        | (refine store_row (ty := 63) wc.heap.size (sel b c).toArray rfl rfl (there_kept (C := sea0c) (grown_refl _ none)) (by kernel_rfl) (by kernel_rfl) ?_; intro w4 hr4 ht4 hg4))
      go_meet
      exact ⟨wc.heap.size, rfl, hr4, ht4, range_grown (range_grown hrA (World.grownBy_alloc wc _ none) (by simp)) hg4 (by simp; omega), grown_more (grown_alloc hgx _) hg4 (fun q e => .inr (by injection e with e; have := hgx.size; omega)), Nat.le_refl _⟩
    case rest =>
      obtain ⟨B, rfl, hrB, htB, hrA', hgB, hB⟩ := hcut
      have y0 := hrA' 0 _ rfl
      have y1 := hrA' 1 _ rfl
      have s8 := hrB 8 _ rfl
      have s15 := hrB 15 _ rfl
      have s16 := hrB 16 _ rfl
      have s25 := hrB 25 _ rfl
      have f8 := (htB 8 (by decide)).2
      have f15 := (htB 15 (by decide)).2
      have f16 := (htB 16 (by decide)).2
      have f25 := (htB 25 (by decide)).2
      have rc' : wc.rangeAt w.heap.size 0 (crl c) := range_kept (grown_more (grown_alloc (World.grownBy_alloc _ _ none) _) (KX.out wc hgB) (by simp))
      have c3 := rc' 3 _ rfl
      simp only [Nat.zero_add] at y0 y1 s8 s15 s16 s25 f8 f15 f16 f25 c3
      have n1 : ¬ B = A := by omega
      have n2 : ¬ B = w.heap.size := by have := hg2.size; have := k2.size; omega
      have HR : Hid _ := And.intro hrB htB
      clear hrB htB hrA hrA' rc rc' PE
      go_upto_region 9 with fail
      go_region
      go_upto_region 11 with fail
      have R7 := (World.rangeAt_drew _ B 0 _).mpr (range_set (i := 25) (v := .int .u64 c.mo) (range_set (i := 16) (v := .int .u64 16777215) (range_set (i := 15) (v := .int .u64 1152921504606846975) (range_set (i := 8) (v := .int .u64 1152921504606846975) HR.out.1))))
      have hBw : w2.heap.size ≤ B := by omega
      have G7 := grown_drew (grown_set_new (grown_set_new (grown_set_new (grown_set_new hgB ⟨B, 8, none⟩ hBw (.int .u64 1152921504606846975)) ⟨B, 15, none⟩ hBw (.int .u64 1152921504606846975)) ⟨B, 16, none⟩ hBw (.int .u64 16777215)) ⟨B, 25, none⟩ hBw (.int .u64 c.mo))
      replace R7 : World.rangeAt _ B 0 (sfl b c) := R7
      have T7 := there_kept (KX.out _ G7)
      simp only [World.size_alloc] at T7
      generalize ((((wc.setCell ⟨B, 8, none⟩ (.int .u64 1152921504606846975)).setCell ⟨B, 15, none⟩ (.int .u64 1152921504606846975)).setCell ⟨B, 16, none⟩ (.int .u64 16777215)).setCell ⟨B, 25, none⟩ (.int .u64 c.mo)).drew = W7 at R7 G7 T7 ⊢
      clear y0 y1 s8 s15 s16 s25 f8 f15 f16 f25 c3 n1 n2
      go_wp2_with (first
        | (refine load_row (ty := 63) B 0 (sfl b c) _ rfl R7 Tryd.underlying63 rfl (by kernel_rfl) ?_)
        | (refine store_row (ty := 63) (w.heap.size + 1 + 1) (sfl b c).toArray rfl rfl T7 (by kernel_rfl) (by kernel_rfl) ?_; intro w8 hr8 _ hg8))
      have G8 : w.grownBy w8 none := grown_more (grown_more k2 G7 (by simp)) hg8 (fun q e => .inr (by injection e with e; omega))
      refine bodyPost_ret (res_range Tryd.results20 rfl hr8 rfl) rfl ⟨b, ?_, G8, by omega, ?_⟩
      · rw [← sfl_is]
        rfl
      · exact ((HZ2.out.kept G7 (by simp)).kept hg8 (by simp; omega)).zn
end Go.Proofs.YteiiapnpdfgoaaaDoor
