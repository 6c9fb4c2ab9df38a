/- What 'Between' answers. -/
import Derived.Test.YteiiapnpdfgoaaaDoorDNext
namespace Go.Proofs.YteiiapnpdfgoaaaDoor.Due
/-- The first k numbers from s on, below e. -/
def bw (P : Nat → Bool) (e : Nat) : Nat → Nat → List Nat
  | 0, _ => []
  | k + 1, s => match nxt P (e - s) s with
    | some t => t :: bw P e k (t + 1)
    | none => []
theorem bw_len (P : Nat → Bool) (e : Nat) : ∀ (k s : Nat), (bw P e k s).length ≤ k
  | 0, s => by rw [bw]; simp
  | k + 1, s => by
    rw [bw]
    split
    · rename_i t _; have := bw_len P e k (t + 1); simp; omega
    · simp
end Go.Proofs.YteiiapnpdfgoaaaDoor.Due
namespace Go.Proofs.YteiiapnpdfgoaaaDoor
open Go.RowKit
set_option linter.unusedVariables false

/-- The slice v is the call's own, from block 'base' on, and holds the numbers l. -/
def OwnI (w : World) (base : Nat) (v : Value) (l : List Int) : Prop := w.ownsRow base 2 1 v l.length (l.map (Value.int .i64))
theorem OwnI.kept {w w' : World} {base : Nat} {v : Value} {l : List Int} {row : Option Nat} (h : OwnI w base v l) (g : w.grownBy w' row) (hr : ∀ k, row = some k → k < base) : OwnI w' base v l := by
  refine World.ownsRow.kept h g ?_
  cases hv : v.ownBlock with
  | none => exact .inl rfl
  | some k =>
    refine .inr fun e => ?_
    have h1 := (World.ownsRow.lt h k hv).1
    have h2 := hr k e.symm
    omega
theorem OwnI.row {w : World} {base : Nat} {v : Value} {l : List Int} (h : OwnI w base v l) : (l = [] ∧ v = .slice none 0 0) ∨ ∃ g cap, v = .slice (some ⟨g, 0, none⟩) l.length cap ∧ base ≤ g ∧ ∀ i, i < l.length → w.cell? ⟨g, i, none⟩ = some (.int .i64 (l.getD i 0)) := by
  rcases h.2 with ⟨e, h0⟩ | ⟨g, cap, cur, e, hg, _⟩
  · exact .inl ⟨List.eq_nil_of_length_eq_zero h0, e⟩
  · refine .inr ⟨g, cap, e, hg, fun i hi => ?_⟩
    subst e
    rw [World.ownsRow.cellAt h i (by omega)]
    simp [hi]
theorem OwnI.len {w : World} {base : Nat} {v : Value} {l : List Int} (h : OwnI w base v l) : ∃ a c, v = .slice a l.length c := by
  rcases h.row with ⟨rfl, rfl⟩ | ⟨g, cap, rfl, _⟩
  · exact ⟨_, _, rfl⟩
  · exact ⟨_, _, rfl⟩
/-- 'append(v, x)', v the call's own. -/
theorem wpList_append_one {w : World} {ops : Array Oper} {rest : List Oper} {o : Oper} {a : Act} {Q : Exit → Act → World → Prop} (hgd : o.guard = none) (s x : Operand)
    (ho : o.op = .call { callee := .builtin .append, args := #[s, x], argTypes := #[40, 40] })
    (base : Nat) (v : Value) (l0 : List Int) (hs : a.eval s = v) (hown : OwnI w base v l0) (q : Nat) (t : Int) (hx : a.eval x = .slice (some ⟨q, 0, none⟩) 1 1) (hc : w.cell? ⟨q, 0, none⟩ = some (.int .i64 t))
    (hb : l0.length ≤ 2000) (hbase : base ≤ w.heap.size)
    (h : ∀ v' w', OwnI w' base v' (l0 ++ [t]) → w.grownBy w' v.ownBlock → wpList Tryd.prog ops Q rest (a.put o.dst v') w') : wpList Tryd.prog ops Q (o :: rest) a w := by
  obtain ⟨i, hi, hz0, hz1, hz2⟩ := info_parts info_i64
  refine wpList_append_own w hgd s x 40 ho base 2 i (.int .i64 0) 1 8 Tryd.underlying40 hi hz0 hz1 hz2 rfl (by decide) v l0.length (l0.map (Value.int .i64)) hs hown ⟨q, 0, none⟩ 1 1 [.int .i64 t] hx rfl ?_ ?_ ?_ (by omega) hbase ?_
  · intro j u hu
    cases j with
    | zero => simp at hu; subst hu; rw [Addr.add_lit]; exact hc
    | succ j => simp at hu
  · intro u hu
    simp at hu
    subst hu
    rfl
  · unfold maxLen; omega
  · intro v' w' hown' hg _
    refine h v' w' ?_ hg
    unfold OwnI
    simpa using hown'

/-- The zone lies there still, whatever is done to another block than its own and its turns'. -/
theorem Rdy.foreign {w w' : World} {b : Nat} {z : Zon.Z} {s : Value} {row : Option Nat} (h : Rdy w b z s) (g : w.grownBy w' row) (hb : some b ≠ row) (hs : ∀ k, s.ownBlock = some k → some k ≠ row) : Rdy w' b z s := by
  have hlt := World.block_lt_of_cell? w _ h.c1
  refine ⟨⟨g.cell h.c0 hb, g.cell h.c1 hb, g.cell h.c2 hb, g.cell h.c3 hb, g.cell h.c4 hb, g.cell h.c5 hb, g.cell h.c6 hb, g.cell h.c7 hb, g.cell h.c8 hb, g.cell h.c9 hb, fun i => ?_⟩, g.cell h.done hb, g.cell h.turns hb, ?_⟩
  · exact (frozen_grown g (a := ⟨b, i, none⟩) hlt hb).trans (h.free i)
  · rcases h.told with k | ⟨hs', q, hqb, he, hcs⟩
    · exact .inl k
    · exact .inr ⟨hs', q, hqb, he, fun i hi => g.cell (hcs i hi) (hs q (by rw [he]; rfl))⟩
theorem Rdy.low {w : World} {b : Nat} {z : Zon.Z} {s : Value} (h : Rdy w b z s) : ∀ k, s.ownBlock = some k → k < w.heap.size := by
  intro k hk
  rcases h.told with ⟨_, rfl⟩ | ⟨_, q, _, rfl, hc⟩
  · cases hk
  · injection hk with hk
    subst hk
    exact World.block_lt_of_cell? w _ (hc 0 (by omega))

/-- Of the instants l are found, by f; the zone lies apart from them. -/
def Fnd (B : Nat) (wr : World) (b : Nat) (z : Zon.Z) (f : Value) (l : List Int) : Prop :=
  ∃ base, B ≤ base ∧ base ≤ wr.heap.size ∧ OwnI wr base f l ∧ ((f = .slice none 0 0 ∧ Zn wr b z) ∨ ∃ s, Rdy wr b z s ∧ ∀ k, s.ownBlock = some k → k < base)
/-- The same, the zone having been asked. -/
def Fnd3 (B : Nat) (wr : World) (b : Nat) (z : Zon.Z) (f : Value) (l : List Int) (base : Nat) : Prop :=
  B ≤ base ∧ base ≤ wr.heap.size ∧ OwnI wr base f l ∧ ∃ s, Rdy wr b z s ∧ ∀ k, s.ownBlock = some k → k < base
theorem Fnd3.fnd {B : Nat} {wr : World} {b : Nat} {z : Zon.Z} {f : Value} {l : List Int} {base : Nat} (h : Fnd3 B wr b z f l base) : Fnd B wr b z f l := ⟨base, h.1, h.2.1, h.2.2.1, .inr h.2.2.2⟩
theorem Fnd.zn {B : Nat} {wr : World} {b : Nat} {z : Zon.Z} {f : Value} {l : List Int} (h : Fnd B wr b z f l) : Zn wr b z := by
  obtain ⟨_, _, _, _, h | ⟨s, h, _⟩⟩ := h
  · exact h.2
  · exact h.zn
theorem Fnd3.add {B : Nat} {w3 w4 : World} {b : Nat} {z : Zon.Z} {f v4 : Value} {l l4 : List Int} {base : Nat} {x : Obj} (h : Fnd3 B w3 b z f l base) (hb : b < B) (g : (w3.alloc x).grownBy w4 f.ownBlock) (hO : OwnI w4 base v4 l4) : Fnd B w4 b z v4 l4 := by
  obtain ⟨h1, h2, hf, s, hR, hs⟩ := h
  have hw := g.size
  simp at hw
  refine ⟨base, h1, by omega, hO, .inr ⟨s, (hR.kept (World.grownBy_alloc w3 x none)).foreign g ?_ ?_, hs⟩⟩
  · intro e
    have := (World.ownsRow.lt hf b e.symm).1
    omega
  · intro k hk e
    have := (World.ownsRow.lt hf k e.symm).1
    have := hs k hk
    omega
theorem Fnd3.grown {B : Nat} {w2 w3 w4 : World} {b : Nat} {z : Zon.Z} {f : Value} {l : List Int} {base : Nat} {x : Obj} (h : Fnd3 B w3 b z f l base) (hB : w2.heap.size ≤ B) (g0 : w2.grownBy w3 (some b)) (g : (w3.alloc x).grownBy w4 f.ownBlock) : w2.grownBy w4 (some b) := by
  refine grown_more (grown_alloc g0 x) g fun k e => .inr ?_
  have := (World.ownsRow.lt h.2.2.1 k e).1
  have := h.1
  omega


/-- The list as it lies in memory. -/
abbrev ints (l : List Nat) : List Int := l.map Int.ofNat
theorem Fnd.first {B : Nat} {wr w0 : World} {b : Nat} {z : Zon.Z} {f : Value} {l : List Int} (c : Cro.C) (hc : c.ok) (hr : c.right) (hz : z.ok) (P : Nat → Bool) (hP : Due.IsP c z P) (h : Fnd B wr b z f l) (hb : b < B) (hS : Sea w0 wr b) (t e : Nat) (ht : t ≤ 226157760) (he : e ≤ 226157760) :
    Calls Tryd.prog 22 #[.agg (sfl b c).toArray, .int .i64 t, .int .i64 ((e : Int) - 1)] wr fun r w' => r = .returned (fstV (Due.nxt P (e - t) t)) ∧ wr.grownBy w' (some b) ∧ ∃ base, B ≤ base ∧ base ≤ w'.heap.size ∧ OwnI w' base f l ∧ (t < e → Fnd3 B w' b z f l base) := by
  rw [sfl_is]
  obtain ⟨base, h1, h2, hO, ⟨hf, hZ⟩ | ⟨s, hR, hs⟩⟩ := h
  · refine (first_any c hc hr z hz P hP b w0 wr hS hZ t e ht he).mono fun r w' ⟨hr', hg, hq⟩ => ⟨hr', hg, w'.heap.size, by have := hg.size; omega, Nat.le_refl _, ?_⟩
    have hO' : OwnI w' w'.heap.size f l := by
      rcases hO.row with ⟨rfl, rfl⟩ | ⟨g, cap, e, _⟩
      · exact World.ownsRow_nil _ _ _ _
      · rw [hf] at e; cases e
    refine ⟨hO', fun hlt => ?_⟩
    rcases hq with ⟨h, _⟩ | ⟨s, hR⟩
    · omega
    · exact ⟨by have := hg.size; omega, Nat.le_refl _, hO', s, hR, hR.low⟩
  · refine (first_rdy c hc hr z hz P hP b s w0 wr hS hR t e ht he).mono fun r w' ⟨hr', hg, hR'⟩ => ⟨hr', hg, base, h1, by have := hg.size; omega, hO.kept hg (fun k e => by injection e with e; omega), fun _ => ⟨h1, by have := hg.size; omega, hO.kept hg (fun k e => by injection e with e; omega), s, hR', hs⟩⟩

set_option maxRecDepth 100000 in
set_option maxHeartbeats 3200000 in
theorem bt_most (c : Cro.C) (z : Zon.Z) (a b n : Int) (hn : n < 0 ∨ 1000 < n) (w : World) :
    Calls Tryd.prog 11 #[crv c, zon z, .int .i64 a, .int .i64 b, .int .i64 n] w fun e w' => e = .returned (.tuple #[.slice none 0 0, .int .i64 1]) ∧ w.grownBy w' none := by
  have K2 := fun o1 o2 => grown_alloc (World.grownBy_alloc w o1 none) o2
  by_cases h : n < 0
  · clear hn
    go_enter Tryd.func11, Tryd.ntmps11
    go_wp2
    go_ret2
    exact ⟨rfl, K2 _ _⟩
  · have h2 : 1000 < n := by omega
    have g1 : decide (n < 0) = false := decide_eq_false h
    have g2 : decide (1000 < n) = true := decide_eq_true h2
    clear hn
    go_enter Tryd.func11, Tryd.ntmps11
    go_wp2
    go_ret2
    exact ⟨rfl, K2 _ _⟩

set_option maxRecDepth 100000 in
set_option maxHeartbeats 3200000 in
theorem bt_bad (c : Cro.C) (z : Zon.Z) (a b n : Int) (hn1 : 0 ≤ n) (hn2 : n ≤ 1000) (er : Int) (her : er ≠ 0) (w : World)
    (BG : ∀ w', w.grownBy w' none → Calls Tryd.prog 20 #[crv c, zon z] w' fun e w'' => e = .returned (.tuple #[.agg sea0c, .int .i64 er]) ∧ w'.grownBy w'' none) :
    Calls Tryd.prog 11 #[crv c, zon z, .int .i64 a, .int .i64 b, .int .i64 n] w fun e w' => e = .returned (.tuple #[.slice none 0 0, .int .i64 er]) ∧ w.grownBy w' none := by
  have h0 : (er != 0) = true := by simpa using her
  have K2 := fun o1 o2 => grown_alloc (World.grownBy_alloc w o1 none) o2
  have g1 : decide (n < 0) = false := decide_eq_false (by omega)
  have g2 : decide (1000 < n) = false := decide_eq_false (by omega)
  go_enter Tryd.func11, Tryd.ntmps11
  go_wp2_with (first
    | (go_at_call 20; go_must (refine (BG _ (K2 _ _)).mono ?_); rintro e w1 ⟨rfl, hg1⟩)
    | (refine store_row (ty := 63) w1.heap.size sea0c rfl rfl (there_kept (C := sea0c) (grown_refl _ none)) (by kernel_rfl) sea0_one ?_; intro w2 hr2 _ hg2))
  go_ret2
  have k1 := grown_more (K2 _ _) hg1 (by simp)
  exact ⟨rfl, grown_more (grown_alloc k1 _) hg2 (fun q e => .inr (by injection e with e; have := k1.size; omega))⟩

set_option maxRecDepth 100000 in
set_option maxHeartbeats 3200000 in
theorem bt_time (c : Cro.C) (hc : c.ok) (hr : c.right) (z : Zon.Z) (hz : z.ok) (a b n : Int) (hn1 : 0 ≤ n) (hn2 : n ≤ 1000) (hab : ¬ ((-1 ≤ a ∧ a ≤ 226157759) ∧ (-1 ≤ b ∧ b ≤ 226157759))) (w : World) (hG : Gl w) :
    Calls Tryd.prog 11 #[crv c, zon z, .int .i64 a, .int .i64 b, .int .i64 n] w fun e w' => e = .returned (.tuple #[.slice none 0 0, .int .i64 30]) ∧ w.grownBy w' none := by
  have hnot : ∀ (x : Bool) (w : World), (Op.unary .not (.bool x)).run Tryd.prog w = .ok (.bool (!x)) w := fun _ _ => rfl
  have K2 := fun o1 o2 => grown_alloc (World.grownBy_alloc w o1 none) o2
  have g1 : decide (n < 0) = false := decide_eq_false (by omega)
  have g2 : decide (1000 < n) = false := decide_eq_false (by omega)
  have BG := fun w hG => begin_ok c hc hr z hz w hG
  simp only [← sfl_is] at BG
  have A1 := allowed_any a
  have A2 := allowed_any b
  by_cases h1 : -1 ≤ a ∧ a ≤ 226157759
  · rw [decide_eq_true h1] at A1
    rw [decide_eq_false (fun h => hab ⟨h1, h⟩)] at A2
    clear h1 hab
    go_enter Tryd.func11, Tryd.ntmps11
    go_wp2_with (first
      | (go_at_call 20; go_must (refine (BG _ (hG.kept (K2 _ _))).mono ?_); rintro e w1 ⟨q, rfl, hg1, hb, hZ1⟩)
      | (refine store_row (ty := 63) w1.heap.size (sfl q c).toArray rfl rfl (there_kept (C := sea0c) (grown_refl _ none)) (by kernel_rfl) (sfl_one q c) ?_; intro w2 hr2 _ hg2)
      | (go_at_call 21; with_reducible refine (A1 _).mono ?_; rintro e w3 ⟨rfl, rfl⟩)
      | (go_at_call 21; with_reducible refine (A2 _).mono ?_; rintro e w3 ⟨rfl, rfl⟩))
    go_ret2
    have k1 := grown_more (K2 _ _) hg1 (by simp)
    exact ⟨rfl, grown_more (grown_alloc k1 _) hg2 (fun q e => .inr (by injection e with e; have := k1.size; omega))⟩
  · rw [decide_eq_false h1] at A1
    clear h1 hab A2
    go_enter Tryd.func11, Tryd.ntmps11
    go_wp2_with (first
      | (go_at_call 20; go_must (refine (BG _ (hG.kept (K2 _ _))).mono ?_); rintro e w1 ⟨q, rfl, hg1, hb, hZ1⟩)
      | (refine store_row (ty := 63) w1.heap.size (sfl q c).toArray rfl rfl (there_kept (C := sea0c) (grown_refl _ none)) (by kernel_rfl) (sfl_one q c) ?_; intro w2 hr2 _ hg2)
      | (go_at_call 21; with_reducible refine (A1 _).mono ?_; rintro e w3 ⟨rfl, rfl⟩))
    go_ret2
    have k1 := grown_more (K2 _ _) hg1 (by simp)
    exact ⟨rfl, grown_more (grown_alloc k1 _) hg2 (fun q e => .inr (by injection e with e; have := k1.size; omega))⟩

theorem OwnI.base {w : World} {b b' : Nat} {v : Value} {l : List Int} (h : OwnI w b v l) (hb : b' ≤ b) : OwnI w b' v l := by
  refine ⟨h.1, ?_⟩
  rcases h.2 with h | ⟨g, cap, cur, e, hg, r⟩
  · exact .inl h
  · exact .inr ⟨g, cap, cur, e, by omega, r⟩
def lenOf : Value → Nat
  | .slice _ k _ => k
  | _ => 0
theorem bw_some {P : Nat → Bool} {e k j t : Nat} (h : Due.nxt P (e - j) j = some t) (hk : 0 < k) : Due.bw P e k j = t :: Due.bw P e (k - 1) (t + 1) := by
  obtain ⟨k, rfl⟩ : ∃ i, k = i + 1 := ⟨k - 1, by omega⟩
  rw [Due.bw, h]
  rfl
theorem bw_none {P : Nat → Bool} {e k j : Nat} (h : Due.nxt P (e - j) j = none) : Due.bw P e k j = [] := by
  cases k with
  | zero => rfl
  | succ k => rw [Due.bw, h]

set_option maxRecDepth 100000 in
set_option maxHeartbeats 3200000 in
theorem bt_ok (c : Cro.C) (hc : c.ok) (hr : c.right) (z : Zon.Z) (hz : z.ok) (P : Nat → Bool) (hP : Due.IsP c z P) (s e n : Nat) (hs : s ≤ 226157760) (he : e ≤ 226157760) (hn : n ≤ 1000) (w : World) (hG : Gd w) :
    Calls Tryd.prog 11 #[crv c, zon z, .int .i64 ((s : Int) - 1), .int .i64 ((e : Int) - 1), .int .i64 n] w fun r w' => ∃ v, r = .returned (.tuple #[v, .int .i64 0]) ∧ OwnI w' w.heap.size v (ints (Due.bw P e n s)) ∧ w.grownBy w' none := by
  have hnot : ∀ (x : Bool) (w : World), (Op.unary .not (.bool x)).run Tryd.prog w = .ok (.bool (!x)) w := fun _ _ => rfl
  have K2 := fun o1 o2 => grown_alloc (World.grownBy_alloc w o1 none) o2
  have g1 : decide ((n : Int) < 0) = false := decide_eq_false (by omega)
  have g2 : decide (1000 < (n : Int)) = false := decide_eq_false (by omega)
  have BG := fun w hG => begin_ok c hc hr z hz w hG
  simp only [← sfl_is] at BG
  have A1 := allowed_any ((s : Int) - 1)
  have A2 := allowed_any ((e : Int) - 1)
  rw [decide_eq_true (show (-1 ≤ (s : Int) - 1 ∧ (s : Int) - 1 ≤ 226157759) by omega)] at A1
  rw [decide_eq_true (show (-1 ≤ (e : Int) - 1 ∧ (e : Int) - 1 ≤ 226157759) by omega)] at A2
  have FF : Hid (∀ (B : Nat) (wr : World) (b : Nat) (f : Value) (l : List Int), Fnd B wr b z f l → b < B → Sea w wr b → ∀ t : Nat, t ≤ 226157760 → Calls Tryd.prog 22 #[.agg (sfl b c).toArray, .int .i64 t, .int .i64 ((e : Int) - 1)] wr fun r w' => r = .returned (fstV (Due.nxt P (e - t) t)) ∧ wr.grownBy w' (some b) ∧ ∃ base, B ≤ base ∧ base ≤ w'.heap.size ∧ OwnI w' base f l ∧ (t < e → Fnd3 B w' b z f l base)) :=
    fun B wr b f l h hb hS t ht => Fnd.first c hc hr hz P hP h hb hS t e ht he
  have HG : Hid (Gd w) := hG
  have hG' := hG.gl
  clear hz hr hc hP hG
  go_enter Tryd.func11, Tryd.ntmps11
  go_wp2_with (first
    | (go_at_call 20; go_must (refine (BG _ (hG'.kept (K2 _ _))).mono ?_); rintro e w1 ⟨b, rfl, hg1, hb, hZ1⟩; have k1 := grown_more (K2 _ _) hg1 (by simp); have hbl := World.block_lt_of_cell? w1 _ hZ1.c0)
    | (refine store_row (ty := 63) w1.heap.size (sfl b c).toArray rfl rfl (there_kept (C := sea0c) (grown_refl _ none)) (by kernel_rfl) (sfl_one b c) ?_; intro w2 hr2 _ hg2; have k12 := grown_more (World.grownBy_alloc w1 _ none) hg2 (fun q e => .inr (by injection e with e; omega)); have hZ2 := hZ1.kept k12; have k2 := grown_more k1 k12 (by simp); have S2 : Sea w w2 b := ⟨HG.out, k2, (by simp at hb; omega), World.block_lt_of_cell? w2 _ hZ2.c0⟩)
    | (go_at_call 21; with_reducible refine (A1 _).mono ?_; rintro e w3 ⟨rfl, rfl⟩)
    | (go_at_call 21; with_reducible refine (A2 _).mono ?_; rintro e w3 ⟨rfl, rfl⟩))
  have hbB : b < w3.heap.size := S2.lt
  have hnq : b ≠ w1.heap.size := by omega
  have k31 := k12.size
  have HR : Hid (∀ v, w3.grownBy v (some b) → v.rangeAt w1.heap.size 0 (sfl b c)) := fun v g => range_grown hr2 g (by simpa using hnq)
  have KW : Hid (∀ v, w3.grownBy v (some b) → w.grownBy v none) := fun v g => (S2.on g).grown
  have HZ2 : Hid (Zn w3 b z) := hZ2
  have HS2 : Hid (Sea w w3 b) := S2
  clear hr2 hg1 hg2 hb hZ1 k1 k12 hZ2 k2 S2 BG A1 A2 HG hG' K2 hnot
  go_loopw [2, 14] (fun fr f wr => ∃ (l : List Nat) (j : Nat), fr = .int .i64 ((j : Int) - 1) ∧ j ≤ 226157760 ∧ l.length ≤ n ∧ Hid (Due.bw P e n s = l ++ Due.bw P e (n - l.length) j) ∧ Fnd w3.heap.size wr b z f (ints l) ∧ w3.grownBy wr (some b)) (fun _ f _ => n - lenOf f)
  case atStart => exact ⟨[], s, rfl, hs, by simp, rfl, ⟨w3.heap.size, Nat.le_refl _, Nat.le_refl _, World.ownsRow_nil _ _ _ _, .inl ⟨rfl, HZ2.out⟩⟩, grown_refl _ _⟩
  case round =>
    obtain ⟨l, j, rfl, hj, hl, HB, hF, hG⟩ := hrel
    have hrr := HR.out _ hG
    have A := FF.out _ _ _ _ _ hF hbB (HS2.out.on hG) j hj
    obtain ⟨base0, hb1, hb2, hO, _⟩ := id hF
    obtain ⟨ad, cp, rfl⟩ := hO.len
    have hll : (ints l).length = l.length := by simp
    rw [hll] at hF A hO ⊢
    by_cases hgo : l.length < n
    · cases hx : Due.nxt P (e - j) j with
      | some t =>
        obtain ⟨t1, t2, _, _⟩ := Due.nxt_some P _ _ _ hx
        have HBt : Hid (Due.bw P e n s = (l ++ [t]) ++ Due.bw P e (n - (l ++ [t]).length) (t + 1)) := by
          show _ = _
          rw [HB.out, bw_some hx (by omega)]
          simp [Nat.sub_sub]
        have hje : j < e := by omega
        have hte : t < e := by omega
        rw [hx] at A
        have A' : Calls Tryd.prog 22 #[.agg (sfl b c).toArray, .int .i64 j, .int .i64 ((e : Int) - 1)] wr fun r w' => r = .returned (.tuple #[.int .i64 t, .bool true]) ∧ wr.grownBy w' (some b) ∧ ∃ base, Fnd3 w3.heap.size w' b z (.slice ad l.length cp) (ints l) base := A.mono fun r w' ⟨h1, h2, base, _, _, _, h3⟩ => ⟨h1, h2, base, h3 hje⟩
        clear A hx t1 t2 hF hb1 hb2 hO hje FF
        go_wp2_with (first
          | (refine load_row (ty := 63) w1.heap.size 0 (sfl b c) _ rfl hrr Tryd.underlying63 rfl (by kernel_rfl) ?_)
          | (go_at_call 22; go_must (refine A'.mono ?_); rintro e w4 ⟨rfl, hg4, base, hF4⟩)
          | (refine wpList_append_one rfl (.tmp 54) (.tmp 56) rfl base _ (ints l) rfl (hF4.2.2.1.kept (World.grownBy_alloc w4 _ none) (by simp)) w4.heap.size t rfl (by rw [World.cell?_alloc_new]; rfl) (by simp; omega) (by have := hF4.2.1; simp; omega) ?_; intro v5 w5 hO5 hg5))
        go_roundw
        case rel => exact ⟨l ++ [t], t + 1, val_int (by omega), by omega, by simp; omega, HBt.out, by have := hF4.add hbB hg5 hO5; simpa using this, hF4.grown (Nat.le_refl _) (grown_more hG hg4 (fun _ e => .inl e)) hg5⟩
        case measure =>
          obtain ⟨a5, c5, rfl⟩ := hO5.len
          simp [lenOf]
          omega
      | none =>
        rw [hx] at A
        have A' : Calls Tryd.prog 22 #[.agg (sfl b c).toArray, .int .i64 j, .int .i64 ((e : Int) - 1)] wr fun r w' => r = .returned (.tuple #[.int .i64 0, .bool false]) ∧ wr.grownBy w' (some b) ∧ ∃ base, w3.heap.size ≤ base ∧ OwnI w' base (.slice ad l.length cp) (ints l) := A.mono fun r w' ⟨h1, h2, base, h3, _, h4, _⟩ => ⟨h1, h2, base, h3, h4⟩
        have HBt : Hid (Due.bw P e n s = l) := by show _ = _; rw [HB.out, bw_none hx, List.append_nil]
        clear A hx hF hb1 hb2 hO FF
        go_wp2_with (first
          | (refine load_row (ty := 63) w1.heap.size 0 (sfl b c) _ rfl hrr Tryd.underlying63 rfl (by kernel_rfl) ?_)
          | (go_at_call 22; go_must (refine A'.mono ?_); rintro e w4 ⟨rfl, hg4, base, hb4, hO4⟩))
        go_ret2
        exact ⟨_, rfl, by rw [HBt.out]; exact hO4.base (by have := (KW.out _ (grown_refl _ _)).size; omega), KW.out _ (grown_more hG hg4 (fun _ e => .inl e))⟩
    · have HBt : Hid (Due.bw P e n s = l) := by
        show _ = _
        rw [HB.out, show n - l.length = 0 by omega, Due.bw, List.append_nil]
      have g3 : decide ((l.length : Int) < (n : Int)) = false := decide_eq_false (by omega)
      clear A FF
      go_wp2_with fail
      go_ret2
      exact ⟨_, rfl, by rw [HBt.out]; exact hO.base (by have := (KW.out _ (grown_refl _ _)).size; omega), KW.out _ hG⟩
end Go.Proofs.YteiiapnpdfgoaaaDoor
