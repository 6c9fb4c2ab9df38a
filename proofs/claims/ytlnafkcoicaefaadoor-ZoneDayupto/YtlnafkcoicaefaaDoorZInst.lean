/- What 'Instants' answers. -/
import Derived.Test.YtlnafkcoicaefaaDoorZAwake
namespace Go.Proofs.YtlnafkcoicaefaaDoor.Zon
/-- The zone's offsets, falling. -/
def Z.offs (z : Z) : List Int := if z.s = 0 then [z.b] else [z.b + z.s, z.b]
/-- The instant at which a local minute is shown by an offset, if it is one. -/
def Z.by (z : Z) (L o : Int) : Option Int := if 0 ≤ L - o ∧ L - o ≤ 226157759 ∧ z.at (L - o) = o then some (L - o) else none
/-- All instants of a local minute. -/
def Z.ins (z : Z) (L : Int) : List Int := z.offs.filterMap (z.by L)
theorem offs_bd {z : Z} (h : z.ok) {o : Int} (ho : o ∈ z.offs) : -720 ≤ o ∧ o ≤ 960 := by
  have h' := h
  unfold Z.offs at ho
  split at ho <;> simp at ho <;> omega
theorem offs_len (z : Z) : z.offs.length ≤ 2 := by unfold Z.offs; split <;> simp
theorem ins_len (z : Z) (L : Int) : (z.ins L).length ≤ 2 := Nat.le_trans (List.length_filterMap_le _ _) (offs_len z)
theorem take_succ (z : Z) (L : Int) {j : Nat} (hj : j < z.offs.length) :
    (z.offs.take (j + 1)).filterMap (z.by L) = (z.offs.take j).filterMap (z.by L) ++ (match z.by L (z.offs.getD j 0) with | some t => [t] | none => []) := by
  rw [List.take_add_one, List.filterMap_append]
  congr 1
  rw [List.getD_eq_getElem?_getD, List.getElem?_eq_getElem hj]
  simp only [Option.toList_some, List.filterMap_cons, List.filterMap_nil, Option.getD_some]
  split <;> simp_all
end Go.Proofs.YtlnafkcoicaefaaDoor.Zon
namespace Go.Proofs.YtlnafkcoicaefaaDoor
open Go.RowKit
set_option linter.unusedVariables false

set_option maxRecDepth 100000 in
set_option maxHeartbeats 800000 in
theorem offsets_any (b : Nat) (z : Zon.Z) (hz : z.ok) (w : World) (h : Zr w b z) :
    Calls Tryd.prog 23 #[.pointer (some ⟨b, 0, none⟩)] w fun e w' => ∃ g, e = .returned (.slice (some ⟨g, 0, none⟩) z.offs.length z.offs.length) ∧ w.heap.size ≤ g ∧ w.grownBy w' none ∧ ∀ i, i < z.offs.length → w'.cell? ⟨g, i, none⟩ = some (.int .i64 (z.offs.getD i 0)) := by
  have c0 := h.c0
  have c1 := h.c1
  have hdone : ∀ o, w.grownBy (w.alloc o) none := fun o => World.grownBy_alloc w o none
  have hb1 := hz.1
  have hb2 := hz.2.1
  have hs1 := hz.2.2.1
  have hs2 := hz.2.2.2.1
  clear h hz
  by_cases hs : z.s = 0
  · have e : z.offs = [z.b] := by unfold Zon.Z.offs; rw [if_pos hs]
    rw [e]
    rw [hs] at c1
    clear e hs hs1 hs2
    go_enter Tryd.func23, Tryd.ntmps23
    go_wp2
    go_ret
    refine ⟨w.heap.size, rfl, Nat.le_refl _, hdone _, fun i hi => ?_⟩
    obtain rfl : i = 0 := by simp at hi; omega
    rw [World.cell?_alloc_new]; rfl
  · have e : z.offs = [z.b + z.s, z.b] := by unfold Zon.Z.offs; rw [if_neg hs]
    have g0 : (z.s == 0) = false := by simpa using hs
    rw [e]
    clear e hs
    go_enter Tryd.func23, Tryd.ntmps23
    go_wp2
    go_region
    all_goals
      go_wp2
      go_ret
      have g1 := hdone (.cells #[.int .i64 (z.b + z.s), .int .i64 z.b] 3)
      refine ⟨w.heap.size, rfl, Nat.le_refl _, ⟨g1.os, g1.tape, g1.output, g1.size, g1.block⟩, fun i hi => ?_⟩
      rw [World.cell?_drew, World.cell?_alloc_new]
      have hi' : i = 0 ∨ i = 1 := by omega
      rcases hi' with rfl | rfl <;> rfl

/-- The slice v is the call's own, from block 'base' on, and holds the numbers l. -/
def OwnI (w : World) (base : Nat) (v : Value) (l : List Int) : Prop := w.ownsRow base 2 1 v l.length (l.map (Value.int .i64))
theorem OwnI.kept {w w' : World} {base : Nat} {v : Value} {l : List Int} {row : Option Nat} (h : OwnI w base v l) (g : w.grownBy w' row) (hr : ∀ k, row = some k → k < base) : OwnI w' base v l := by
  refine World.ownsRow.kept h g ?_
  cases hv : v.ownBlock with
  | none => exact .inl rfl
  | some k =>
    refine .inr fun e => ?_
    have h1 := (World.ownsRow.lt h k hv).1
    have h2 := hr k e.symm
    omega
theorem OwnI.row {w : World} {base : Nat} {v : Value} {l : List Int} (h : OwnI w base v l) : (l = [] ∧ v = .slice none 0 0) ∨ ∃ g cap, v = .slice (some ⟨g, 0, none⟩) l.length cap ∧ base ≤ g ∧ ∀ i, i < l.length → w.cell? ⟨g, i, none⟩ = some (.int .i64 (l.getD i 0)) := by
  rcases h.2 with ⟨e, h0⟩ | ⟨g, cap, cur, e, hg, _⟩
  · exact .inl ⟨List.eq_nil_of_length_eq_zero h0, e⟩
  · refine .inr ⟨g, cap, e, hg, fun i hi => ?_⟩
    subst e
    rw [World.ownsRow.cellAt h i (by omega)]
    simp [hi]
theorem OwnI.len {w : World} {base : Nat} {v : Value} {l : List Int} (h : OwnI w base v l) : ∃ a c, v = .slice a l.length c := by
  rcases h.row with ⟨rfl, rfl⟩ | ⟨g, cap, rfl, _⟩
  · exact ⟨_, _, rfl⟩
  · exact ⟨_, _, rfl⟩
/-- 'append(v, x)', v the call's own. -/
theorem wpList_append_one {w : World} {ops : Array Oper} {rest : List Oper} {o : Oper} {a : Act} {Q : Exit → Act → World → Prop} (hgd : o.guard = none) (s x : Operand)
    (ho : o.op = .call { callee := .builtin .append, args := #[s, x], argTypes := #[34, 34] })
    (base : Nat) (v : Value) (l0 : List Int) (hs : a.eval s = v) (hown : OwnI w base v l0) (q : Nat) (t : Int) (hx : a.eval x = .slice (some ⟨q, 0, none⟩) 1 1) (hc : w.cell? ⟨q, 0, none⟩ = some (.int .i64 t))
    (hb : l0.length ≤ 100) (hbase : base ≤ w.heap.size)
    (h : ∀ v' w', OwnI w' base v' (l0 ++ [t]) → w.grownBy w' v.ownBlock → wpList Tryd.prog ops Q rest (a.put o.dst v') w') : wpList Tryd.prog ops Q (o :: rest) a w := by
  obtain ⟨i, hi, hz0, hz1, hz2⟩ := info_parts info_i64
  refine wpList_append_own w hgd s x 34 ho base 2 i (.int .i64 0) 1 8 Tryd.underlying34 hi hz0 hz1 hz2 rfl (by decide) v l0.length (l0.map (Value.int .i64)) hs hown ⟨q, 0, none⟩ 1 1 [.int .i64 t] hx rfl ?_ ?_ ?_ (by omega) hbase ?_
  · intro j u hu
    cases j with
    | zero => simp at hu; subst hu; rw [Addr.add_lit]; exact hc
    | succ j => simp at hu
  · intro u hu
    simp at hu
    subst hu
    rfl
  · unfold maxLen; omega
  · intro v' w' hown' hg _
    refine h v' w' ?_ hg
    unfold OwnI
    simpa using hown'

theorem inst_bd {y m d h n : Int} (hT : Thr y m d h n) : 0 ≤ inst y m d h n ∧ inst y m d h n ≤ 226157759 := by
  obtain ⟨t1, t2, t3, t4, t5, t6⟩ := hT
  obtain ⟨hy1, hy2, hm1, hm2⟩ := Civ.of_dys (y := y) (m := m) (by omega)
  rw [Civ.dys_in hy1 hy2 hm1 hm2] at t2
  have hr := (⟨hy1, hy2, hm1, hm2, t1, t2, rfl⟩ : Civ.At _ y m d).range
  unfold inst
  omega

set_option maxRecDepth 100000 in
theorem instants_bad (b : Nat) (z : Zon.Z) (y m d h n k : Int) (hT : ¬ Thr y m d h n) (w : World) (hw : Zn w b z) :
    Calls Tryd.prog 12 #[.pointer (some ⟨b, 0, none⟩), civ y m d h n k] w fun e w' => e = .returned (.slice none 0 0) ∧ w.grownBy w' none := by
  have T := to_bad y m d h n k hT
  clear hT hw
  go_enter Tryd.func12, Tryd.ntmps12
  go_wp2_with (go_at_call 22; go_must (refine (T _).mono ?_); rintro e w1 ⟨rfl, hg1⟩)
  go_ret
  exact ⟨rfl, grown_more (World.grownBy_alloc w _ none) hg1 (by simp)⟩

/-- The zone lies there still, whatever is done to another block than its own and its turns'. -/
theorem Rdy.foreign {w w' : World} {b : Nat} {z : Zon.Z} {s : Value} {row : Option Nat} (h : Rdy w b z s) (g : w.grownBy w' row) (hb : some b ≠ row) (hs : ∀ k, s.ownBlock = some k → some k ≠ row) : Rdy w' b z s := by
  have hlt := World.block_lt_of_cell? w _ h.c1
  refine ⟨⟨g.cell h.c0 hb, g.cell h.c1 hb, g.cell h.c2 hb, g.cell h.c3 hb, g.cell h.c4 hb, g.cell h.c5 hb, g.cell h.c6 hb, g.cell h.c7 hb, g.cell h.c8 hb, g.cell h.c9 hb, fun i => ?_⟩, g.cell h.done hb, g.cell h.turns hb, ?_⟩
  · exact (frozen_grown g (a := ⟨b, i, none⟩) hlt hb).trans (h.free i)
  · rcases h.told with k | ⟨hs', q, hqb, he, hcs⟩
    · exact .inl k
    · exact .inr ⟨hs', q, hqb, he, fun i hi => g.cell (hcs i hi) (hs q (by rw [he]; rfl))⟩
theorem Rdy.low {w : World} {b : Nat} {z : Zon.Z} {s : Value} (h : Rdy w b z s) : ∀ k, s.ownBlock = some k → k < w.heap.size := by
  intro k hk
  rcases h.told with ⟨_, rfl⟩ | ⟨_, q, _, rfl, hc⟩
  · cases hk
  · injection hk with hk
    subst hk
    exact World.block_lt_of_cell? w _ (hc 0 (by omega))

/-- Of the instants l are found, by f; the zone lies apart from them. -/
def Fnd (B : Nat) (wr : World) (b : Nat) (z : Zon.Z) (f : Value) (l : List Int) : Prop :=
  ∃ base, B ≤ base ∧ base ≤ wr.heap.size ∧ OwnI wr base f l ∧ ((f = .slice none 0 0 ∧ Zn wr b z) ∨ ∃ s, Rdy wr b z s ∧ ∀ k, s.ownBlock = some k → k < base)
/-- The same, the zone having been asked. -/
def Fnd3 (B : Nat) (wr : World) (b : Nat) (z : Zon.Z) (f : Value) (l : List Int) (base : Nat) : Prop :=
  B ≤ base ∧ base ≤ wr.heap.size ∧ OwnI wr base f l ∧ ∃ s, Rdy wr b z s ∧ ∀ k, s.ownBlock = some k → k < base
theorem Fnd3.fnd {B : Nat} {wr : World} {b : Nat} {z : Zon.Z} {f : Value} {l : List Int} {base : Nat} (h : Fnd3 B wr b z f l base) : Fnd B wr b z f l := ⟨base, h.1, h.2.1, h.2.2.1, .inr h.2.2.2⟩
theorem Fnd.zn {B : Nat} {wr : World} {b : Nat} {z : Zon.Z} {f : Value} {l : List Int} (h : Fnd B wr b z f l) : Zn wr b z := by
  obtain ⟨_, _, _, _, h | ⟨s, h, _⟩⟩ := h
  · exact h.2
  · exact h.zn
theorem Fnd.offset {B : Nat} {wr : World} {b : Nat} {z : Zon.Z} {f : Value} {l : List Int} (hz : z.ok) (h : Fnd B wr b z f l) (hb : b < B) (t : Int) (t1 : 0 ≤ t) (t2 : t ≤ 226157759) :
    Calls Tryd.prog 17 #[.pointer (some ⟨b, 0, none⟩), .int .i64 t] wr fun e w' => e = .returned (.tuple #[.int .i64 (z.at t), .int .i64 0]) ∧ ∃ base, Fnd3 B w' b z f l base ∧ wr.grownBy w' (some b) := by
  obtain ⟨base, h1, h2, hO, ⟨hf, hZ⟩ | ⟨s, hR, hs⟩⟩ := h
  · refine (offset_any b z hz t t1 t2 wr hZ).mono fun e w' ⟨he, s, hR, hg⟩ => ⟨he, w'.heap.size, ⟨by have := hg.size; omega, Nat.le_refl _, ?_, s, hR, hR.low⟩, hg⟩
    rcases hO.row with ⟨rfl, rfl⟩ | ⟨g, cap, e, _⟩
    · exact World.ownsRow_nil _ _ _ _
    · rw [hf] at e; cases e
  · refine (offset_again b z hz t t1 t2 wr s hR).mono fun e w' ⟨he, hR', hg⟩ => ⟨he, base, ⟨h1, by have := hg.size; omega, hO.kept hg (by simp), s, hR', hs⟩, grown_more (grown_refl wr (some b)) hg (by simp)⟩
theorem Fnd3.add {B : Nat} {w3 w4 : World} {b : Nat} {z : Zon.Z} {f v4 : Value} {l l4 : List Int} {base : Nat} {x : Obj} (h : Fnd3 B w3 b z f l base) (hb : b < B) (g : (w3.alloc x).grownBy w4 f.ownBlock) (hO : OwnI w4 base v4 l4) : Fnd B w4 b z v4 l4 := by
  obtain ⟨h1, h2, hf, s, hR, hs⟩ := h
  have hw := g.size
  simp at hw
  refine ⟨base, h1, by omega, hO, .inr ⟨s, (hR.kept (World.grownBy_alloc w3 x none)).foreign g ?_ ?_, hs⟩⟩
  · intro e
    have := (World.ownsRow.lt hf b e.symm).1
    omega
  · intro k hk e
    have := (World.ownsRow.lt hf k e.symm).1
    have := hs k hk
    omega
theorem Fnd3.grown {B : Nat} {w2 w3 w4 : World} {b : Nat} {z : Zon.Z} {f : Value} {l : List Int} {base : Nat} {x : Obj} (h : Fnd3 B w3 b z f l base) (hB : w2.heap.size ≤ B) (g0 : w2.grownBy w3 (some b)) (g : (w3.alloc x).grownBy w4 f.ownBlock) : w2.grownBy w4 (some b) := by
  refine grown_more (grown_alloc g0 x) g fun k e => .inr ?_
  have := (World.ownsRow.lt h.2.2.1 k e).1
  have := h.1
  omega

set_option maxRecDepth 100000 in
set_option maxHeartbeats 1600000 in
theorem instants_any (b : Nat) (z : Zon.Z) (hz : z.ok) (y m d h n k : Int) (hT : Thr y m d h n) (w : World) (hw : Zn w b z) :
    Calls Tryd.prog 12 #[.pointer (some ⟨b, 0, none⟩), civ y m d h n k] w fun e w' => ∃ v, e = .returned v ∧ OwnI w' w.heap.size v (z.ins (inst y m d h n)) ∧ Zn w' b z ∧ w.grownBy w' (some b) := by
  have T := to_ok y m d h n k hT
  have hI := inst_bd hT
  obtain ⟨L, hL⟩ : ∃ L, L = inst y m d h n := ⟨_, rfl⟩
  rw [← hL] at T hI ⊢
  clear hL hT
  obtain ⟨hL1, hL2⟩ := hI
  have OF := fun w (h : Zr w b z) => offsets_any b z hz w h
  have hlt := World.block_lt_of_cell? w _ hw.c0
  simp only at hlt
  have HO : Hid (∀ j, j < z.offs.length → -720 ≤ z.offs.getD j 0 ∧ z.offs.getD j 0 ≤ 960) := fun j hj => by
    refine Zon.offs_bd hz ?_
    rw [List.getD_eq_getElem?_getD, List.getElem?_eq_getElem hj]
    exact List.getElem_mem hj
  have HT : Hid (∀ j, j < z.offs.length → (z.offs.take (j + 1)).filterMap (z.by L) = (z.offs.take j).filterMap (z.by L) ++ (match z.by L (z.offs.getD j 0) with | some t => [t] | none => [])) := fun j hj => Zon.take_succ z L hj
  have HE : Hid (z.ins L = (z.offs.take z.offs.length).filterMap (z.by L)) := by show z.ins L = _; rw [List.take_length]; rfl
  have hlen := Zon.offs_len z
  obtain ⟨N, hN⟩ : ∃ N, N = z.offs.length := ⟨_, rfl⟩
  simp only [← hN] at OF
  rw [← hN] at HO HT HE hlen
  clear hN
  go_enter Tryd.func12, Tryd.ntmps12
  go_wp2_with (first
    | (go_at_call 22; go_must (refine (T _).mono ?_); rintro e w1 ⟨rfl, hg1⟩; have hZ1 := (hw.kept (World.grownBy_alloc w _ none)).kept hg1)
    | (go_at_call 23; go_must (refine (OF _ hZ1.toZr).mono ?_); rintro e w2 ⟨g, rfl, hg, hg2, hc⟩; have hZ2 := hZ1.kept hg2))
  have hs2 := hg2.size
  have hs1 := hg1.size
  simp at hs1
  have G0 : w.grownBy w2 (some b) := grown_more (grown_more (grown_more (grown_refl w (some b)) (World.grownBy_alloc w _ none) (by simp)) hg1 (by simp)) hg2 (by simp)
  have CG : Hid (∀ wr, w2.grownBy wr (some b) → ∀ i, i < N → wr.cell? ⟨g, i, none⟩ = some (.int .i64 (z.offs.getD i 0))) := fun wr hr i hi => hr.cell (hc i hi) (by simp; omega)
  have hbb : b < w2.heap.size := by omega
  have hwb : w.heap.size ≤ w2.heap.size := by omega
  clear hc T OF hZ1 hg hg1 hg2 hs1 hs2
  go_loopw [7, 27] (fun f i wr => ∃ j : Nat, j ≤ N ∧ i = .int .i64 j ∧ Fnd w2.heap.size wr b z f ((z.offs.take j).filterMap (z.by L)) ∧ w2.grownBy wr (some b)) (fun _ i _ => (10 - intOf i).toNat)
  case atStart => exact ⟨0, by omega, rfl, ⟨w2.heap.size, Nat.le_refl _, Nat.le_refl _, World.ownsRow_nil _ _ _ _, .inl ⟨rfl, hZ2⟩⟩, grown_refl _ _⟩
  case round =>
    clear hZ2
    obtain ⟨j, hj, rfl, hF, hG⟩ := hrel
    by_cases hjn : j < N
    · have cj := CG.out _ hG j hjn
      have hob := HO.out j hjn
      have HTj : Hid _ := HT.out j hjn
      obtain ⟨o, ho⟩ : ∃ o, o = z.offs.getD j 0 := ⟨_, rfl⟩
      rw [← ho] at cj hob HTj
      clear ho
      obtain ⟨hob1, hob2⟩ := hob
      by_cases ht : 0 ≤ L - o ∧ L - o ≤ 226157759
      · obtain ⟨ht1, ht2⟩ := ht
        have hl : ((z.offs.take j).filterMap (z.by L)).length ≤ 100 := by have := List.length_filterMap_le (z.by L) (z.offs.take j); have := List.length_take_le j z.offs; omega
        by_cases hat : z.at (L - o) = o
        · have HTk : Hid (List.filterMap (z.by L) (List.take (j + 1) z.offs) = List.filterMap (z.by L) (List.take j z.offs) ++ [L - o]) := by
            have hby : z.by L o = some (L - o) := by unfold Zon.Z.by; rw [if_pos ⟨ht1, ht2, hat⟩]
            have := HTj.out
            rw [hby] at this
            exact this
          clear HTj
          generalize (z.offs.take j).filterMap (z.by L) = l at hF HTk hl
          have A := hF.offset hz hbb (L - o) ht1 ht2
          rw [hat] at A
          clear hat
          go_wp2_with (first
            | (go_at_call 17; go_must (refine A.mono ?_); rintro e w3 ⟨rfl, base, hF3, hg3⟩)
            | (refine wpList_append_one rfl (.tmp 47) (.tmp 49) rfl base _ l rfl (hF3.2.2.1.kept (World.grownBy_alloc w3 _ none) (by simp)) w3.heap.size (L - o) rfl (by rw [World.cell?_alloc_new]; rfl) hl (by have := hF3.2.1; simp; omega) ?_; intro v4 w4 hO4 hg4))
          go_roundw
          case rel => exact ⟨j + 1, by omega, val_int (by omega), by rw [HTk.out]; exact hF3.add hbb hg4 hO4, hF3.grown (Nat.le_refl _) (grown_more hG hg3 (by simp)) hg4⟩
          case measure => simp [intOf]; omega
        · have HTk : Hid (List.filterMap (z.by L) (List.take (j + 1) z.offs) = List.filterMap (z.by L) (List.take j z.offs)) := by
            have hby : z.by L o = none := by unfold Zon.Z.by; rw [if_neg (fun h => hat h.2.2)]
            have := HTj.out
            rw [hby] at this
            exact this.trans (List.append_nil _)
          have hat' : (z.at (L - o) == o) = false := by simpa using hat
          clear HTj
          generalize (z.offs.take j).filterMap (z.by L) = l at hF HTk hl
          have A := hF.offset hz hbb (L - o) ht1 ht2
          generalize z.at (L - o) = q at A hat'
          clear hat
          go_wp2_with (go_at_call 17; go_must (refine A.mono ?_); rintro e w3 ⟨rfl, base, hF3, hg3⟩)
          go_roundw
          case rel => exact ⟨j + 1, by omega, val_int (by omega), by rw [HTk.out]; exact hF3.fnd, grown_more hG hg3 (by simp)⟩
          case measure => simp [intOf]; omega
      · have HTk : Hid (List.filterMap (z.by L) (List.take (j + 1) z.offs) = List.filterMap (z.by L) (List.take j z.offs)) := by
          have hby : z.by L o = none := by unfold Zon.Z.by; rw [if_neg (fun h => ht ⟨h.1, h.2.1⟩)]
          have := HTj.out
          rw [hby] at this
          exact this.trans (List.append_nil _)
        clear HTj
        have A := offset_bad b (L - o) (by omega)
        clear ht
        go_wp2_with (go_at_call 17; go_must (refine (A _).mono ?_); rintro e w3 ⟨rfl, rfl⟩)
        go_roundw
        case rel => exact ⟨j + 1, by omega, val_int (by omega), by rw [HTk.out]; exact hF, hG⟩
        case measure => simp [intOf]; omega
    · obtain rfl : j = N := by omega
      have HF := hF.zn
      obtain ⟨base, hb1, hb2, hO, _⟩ := hF
      go_wp2_with fail
      go_ret
      refine ⟨_, rfl, ?_, HF, grown_more G0 hG (by simp)⟩
      rw [HE.out]
      refine ⟨hO.1, ?_⟩
      rcases hO.2 with h | ⟨g, cap, cur, e, hg, r⟩
      · exact .inl h
      · exact .inr ⟨g, cap, cur, e, by omega, r⟩
end Go.Proofs.YtlnafkcoicaefaaDoor
