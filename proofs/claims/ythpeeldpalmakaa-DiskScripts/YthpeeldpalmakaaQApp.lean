/- Append: what it refuses; how a file grows. -/
import Derived.Test.YthpeeldpalmakaaQRead
import Derived.Deep.CutBlock
namespace Go.Proofs.Ythpeeldpalmakaa
open Go.RowKit Dsk
set_option linter.unusedVariables false

/-- 'm[name] = f', of a name that isn't there. -/
theorem wpList_update_M (w : World) {ops : Array Oper} {rest : List Oper} {o : Oper} {a : Act} {Q : Exit → Act → World → Prop} (hg : o.guard = none) (mo x v : Operand) (hop : o.op = Op.mapUpdate 46 mo x v)
    {bm : Nat} {M : List (List UInt8 × Nat)} (hm : a.eval mo = .map (some bm)) (h : MapOf w bm M) {s : ByteArray} (hs : s.data.toList.length ≤ 16) (hf : (M.any fun p => p.1 == s.data.toList) = false) (hl : M.length ≤ 64) {f : Nat} (hx : a.eval x = .string s) (hv : a.eval v = .pointer (some ⟨f, 0, none⟩))
    (hK : ∀ w', MapOf w' bm (M ++ [(s.data.toList, f)]) → w.grownBy w' (some bm) → wpList Try.prog ops Q rest (a.put o.dst undef) w') : wpList Try.prog ops Q (o :: rest) a w := by
  obtain ⟨D, h1, T⟩ := h
  have hs' : s.size ≤ 140737488351232 := by rw [size_list]; omega
  refine wpList_mapUpdate_own w hg mo x v 46 hop 9 52 mapLaw Try.underlying46 pE bm _ D hm h1 (by rw [T.size]; unfold maxLen; omega) _ _ _ hx hv (keyS hs') _ [] (pE_some f) fun w' h2 h3 => hK w' ⟨_, owns_tight h2, T.put (h1.tidy mapLaw) hs hf f⟩ h3
/-- 'len(m)'. -/
theorem wpList_len_M (w : World) {ops : Array Oper} {rest : List Oper} {o : Oper} {a : Act} {Q : Exit → Act → World → Prop} (hg : o.guard = none) (mo : Operand) (hop : o.op = Op.call { callee := Callee.builtin Builtin.len, args := #[mo], argTypes := #[46] })
    {bm : Nat} {M : List (List UInt8 × Nat)} (hm : a.eval mo = .map (some bm)) (h : MapOf w bm M) (hK : wpList Try.prog ops Q rest (a.put o.dst (.int .i64 (M.length : Int))) w) : wpList Try.prog ops Q (o :: rest) a w := by
  obtain ⟨D, h1, T⟩ := h
  refine wpList_len_own w hg mo 46 hop 9 52 Try.underlying46 pE bm _ D hm h1 ?_
  rw [T.size]
  exact hK
theorem run_len_M {w : World} {bm : Nat} {M : List (List UInt8 × Nat)} (h : MapOf w bm M) (ty : TypeId) : (Builtin.len_ #[46] ty #[.map (some bm)]).run Try.prog w = .ok (.int .i64 (M.length : Int)) w := by
  obtain ⟨D, h1, T⟩ := h
  rw [h1.len Try.underlying46 ty, T.size]
/-- How a file that was appended to lies in memory. -/
theorem FilD.add {W w1 w3 : World} {f : Nat} {vb vw vb' vw' : Value} {fl : Fl} {G : Nat → Prop} {by' : List UInt8} {ws' : List (Int × Nat)} (h : FilD W f vb vw fl) (hf : G f) (hb : ∀ k, vb.ownBlock = some k → G k) (hw : ∀ k, vw.ownBlock = some k → G k) (hlt : ∀ k, G k → k < W.heap.size)
    (O1 : eB.Own w1 0 vb' by') (g1 : W.grownBy w1 vb.ownBlock) (l1 : vb'.ownBlock = vb.ownBlock ∨ vb'.ownBlock = some W.heap.size)
    (O3 : eW.Own w3 0 vw' ws') (g3 : (w1.setCell ⟨f, 0, none⟩ vb').grownBy w3 vw.ownBlock) (l3 : vw'.ownBlock = vw.ownBlock ∨ ∃ k, vw'.ownBlock = some k ∧ w1.heap.size ≤ k) :
    Fil (w3.setCell ⟨f, 1, none⟩ vw') f ⟨by', ws'⟩ (fun k => k < w3.heap.size ∧ (G k ∨ W.heap.size ≤ k)) ∧ Chg G W (w3.setCell ⟨f, 1, none⟩ vw') := by
  have gs1 := grown_set w1 ⟨f, 0, none⟩ vb'
  have gs3 := grown_set w3 ⟨f, 1, none⟩ vw'
  have z1 := g1.size
  have z3 := g3.size
  rw [size_set] at z3
  have fW := hlt f hf
  have nfb : some f ≠ vb.ownBlock := fun e => h.nb e.symm
  have nfw : some f ≠ vw.ownBlock := fun e => h.nw e.symm
  -- vb' is none of f's and vw's blocks
  have hb' : ∀ k, vb'.ownBlock = some k → k ≠ f ∧ vw.ownBlock ≠ some k ∧ (G k ∨ W.heap.size ≤ k) := fun k hk => by
    rcases l1 with e | e
    · rw [e] at hk
      exact ⟨fun c => h.nb (by rw [hk, c]), h.bw k hk, .inl (hb k hk)⟩
    · rw [e] at hk
      injection hk with hk
      exact ⟨by omega, fun c => by have := hlt k (hw k c); omega, .inr (by omega)⟩
  have hw' : ∀ k, vw'.ownBlock = some k → k ≠ f ∧ vb'.ownBlock ≠ some k ∧ (G k ∨ W.heap.size ≤ k) := fun k hk => by
    rcases l3 with e | ⟨j, e, hj⟩
    · rw [e] at hk
      exact ⟨fun c => h.nw (by rw [hk, c]), fun c => (hb' k c).2.1 hk, .inl (hw k hk)⟩
    · rw [e] at hk
      injection hk with hk
      refine ⟨by omega, fun c => ?_, .inr (by omega)⟩
      have := (O1.lt k c).2
      omega
  have k0 : (w1.setCell ⟨f, 0, none⟩ vb').cell? ⟨f, 0, none⟩ = some vb' := set_same (g1.cell h.c0 nfb)
  have k1 : (w1.setCell ⟨f, 0, none⟩ vb').cell? ⟨f, 1, none⟩ = some vw := (set_other (by simp)).trans (g1.cell h.c1 nfb)
  have f1 : ∀ i, w1.frozen? ⟨f, i, none⟩ = false := fun i => by rw [World.frozen?_of_block (w := W) (a := ⟨f, i, none⟩) (g1.block f fW nfb)]; exact h.fr i
  have f3 : ∀ i, w3.frozen? ⟨f, i, none⟩ = false := fun i => by
    rw [World.frozen?_of_block (w := w1.setCell ⟨f, 0, none⟩ vb') (a := ⟨f, i, none⟩) (g3.block f (by rw [size_set]; omega) nfw)]
    exact (World.frozen?_setCell _ _ _ _).trans (f1 i)
  have O1' : eB.Own (w1.setCell ⟨f, 0, none⟩ vb') 0 vb' by' := O1.but gs1 fun k hk e => (hb' k hk).1 (by injection e with e; exact e.symm)
  refine ⟨⟨vb', vw', ⟨(set_other (by simp)).trans (g3.cell k0 nfw), set_same (g3.cell k1 nfw), fun i => (World.frozen?_setCell _ _ _ _).trans (f3 i), ?_, ?_, fun e => (hb' f e).1 rfl, fun e => (hw' f e).1 rfl, fun k hk e => (hw' k e).2.1 hk⟩, ⟨by omega, .inl hf⟩, fun k hk => ⟨?_, (hb' k hk).2.2⟩, fun k hk => ⟨(O3.lt k hk).2, (hw' k hk).2.2⟩, fun k hk => by rw [size_set]; exact hk.1⟩, ?_⟩
  · exact (O1'.but g3 fun k hk e => (hb' k hk).2.1 e).but gs3 fun k hk e => (hb' k hk).1 (by injection e with e; exact e.symm)
  · exact O3.but gs3 fun k hk e => (hw' k hk).1 (by injection e with e; exact e.symm)
  · have := (O1.lt k hk).2; omega
  · have c1 : Chg G W w1 := Chg.of g1 hb
    have c2 := c1.grown gs1 fun k hk => .inl (by injection hk with hk; rw [← hk]; exact hf)
    have c3 := c2.grown g3 fun k hk => .inl (hw k hk)
    exact c3.grown gs3 fun k hk => .inl (by injection hk with hk; rw [← hk]; exact hf)
/-- The count of writes is another one. -/
theorem DkD.made {w : World} {b bm : Nat} {M : List (List UInt8 × Nat)} {c : Nat → Fl} {G : Nat → Nat → Prop} {m : Int} (h : DkD w b bm M c G m) (m' : Int) : DkD (w.setCell ⟨b, 1, none⟩ (.int .i64 m')) b bm M c G m' := by
  have C : Chg (fun k => k = b) w (w.setCell ⟨b, 1, none⟩ (.int .i64 m')) := Chg.of (grown_set w _ _) fun k hk => by injection hk with hk; exact hk.symm
  refine ⟨(set_other (by simp)).trans h.c0, set_same h.c1, fun i => (World.frozen?_setCell _ _ _ _).trans (h.fr i), h.map.kept C fun e => h.bb e.symm, fun p hp => (h.fil p hp).kept C fun k hk e => (h.base p hp k hk).1 e, h.inj, h.apart, h.base, h.bb⟩

set_option maxRecDepth 100000 in
set_option maxHeartbeats 800000 in
theorem app_bad (b : Nat) (s : ByteArray) (hs : s.size ≤ 140737488351232) (v : Value) (h : isNm s.data.toList = false) (w : World) :
    Calls Try.prog 23 #[.pointer (some ⟨b, 0, none⟩), .string s, v] w fun e w' => e = .returned (.int .i64 1) ∧ w' = w := by
  have NM := name_any s hs
  rw [h] at NM
  clear h
  go_enter Try.func23, Try.ntmps23
  go_wp2_with (go_at_call 33; (with_reducible refine (NM _).mono ?_); rintro e w1 ⟨rfl, rfl⟩)
  go_ret
  exact ⟨rfl, rfl⟩
set_option maxRecDepth 100000 in
set_option maxHeartbeats 800000 in
theorem app_many (b bm : Nat) (M : List (List UInt8 × Nat)) (s : ByteArray) (hs : s.size ≤ 140737488351232) (v : Value) (h : isNm s.data.toList = true) (w : World) (c0 : w.cell? ⟨b, 0, none⟩ = some (.map (some bm))) (hm : MapOf w bm M) (hf : (M.any fun p => p.1 == s.data.toList) = false) (hl : M.length = 64) :
    Calls Try.prog 23 #[.pointer (some ⟨b, 0, none⟩), .string s, v] w fun e w' => e = .returned (.int .i64 3) ∧ w' = w := by
  have NM := name_any s hs
  rw [h] at NM
  have LK := hm.look_no hs hf w (grown_refl _ _)
  have LN := fun ty => run_len_M hm ty
  rw [hl] at LN
  clear h hf hm hl
  go_enter Try.func23, Try.ntmps23
  go_wp2_with (go_at_call 33; (with_reducible refine (NM _).mono ?_); rintro e w1 ⟨rfl, rfl⟩)
  go_ret
  exact ⟨rfl, rfl⟩
set_option maxRecDepth 100000 in
set_option maxHeartbeats 1600000 in
theorem app_full (b : Nat) (bm : Nat) (M : List (List UInt8 × Nat)) (c : Nat → Fl) (G : Nat → Nat → Prop) (m : Int) (s : ByteArray) (hs : s.size ≤ 140737488351232) (ad : Option Addr) (n cp : Nat) (hn : n ≤ 140737488351232) (h : isNm s.data.toList = true) (w : World) (hD : DkD w b bm M c G m) (ht : tot (lay M c) ≤ 1048576) (hfull : 1048576 < tot (lay M c) + n) (hl : (M.any fun p => p.1 == s.data.toList) = true ∨ M.length ≠ 64) :
    Calls Try.prog 23 #[.pointer (some ⟨b, 0, none⟩), .string s, .slice ad n cp] w fun e w' => e = .returned (.int .i64 3) ∧ w.grownBy w' none := by
  have NM := name_any s hs
  rw [h] at NM
  have c0 := hD.c0
  have SZ := size_any hD ht
  generalize tot (lay M c) = T at SZ ht hfull
  have q1 : decide (1048576 - (T : Int) < (n : Int)) = true := decide_eq_true (by omega)
  have q2 : (1048576 - (T : Int) < (n : Int)) := by omega
  have q3 : (T : Int) ≤ 1048576 := by omega
  cases ha : M.any fun p => p.1 == s.data.toList with
  | true =>
    obtain ⟨f, hf⟩ := any_nm.1 ha
    have LK := hD.map.look_yes hs hf w (grown_refl _ _)
    clear h hD ha hl hf hfull ht
    go_enter Try.func23, Try.ntmps23
    go_wp2_with (first
      | (go_at_call 33; (with_reducible refine (NM _).mono ?_); rintro e w1 ⟨rfl, rfl⟩)
      | (go_at_call 34; (with_reducible refine SZ.mono ?_); rintro e w2 ⟨rfl, hg⟩))
    go_ret
    exact ⟨rfl, hg⟩
  | false =>
    have LK := hD.map.look_no hs ha w (grown_refl _ _)
    have LN := fun ty => run_len_M hD.map ty
    have hl' : M.length ≠ 64 := by
      rcases hl with e | e
      · rw [ha] at e; cases e
      · exact e
    have q4 : ((M.length : Int) == 64) = false := by simp; omega
    have q5 : ¬ (M.length : Int) = 64 := by omega
    clear h hD ha hl hfull ht hl'
    go_enter Try.func23, Try.ntmps23
    go_wp2_with (first
      | (go_at_call 33; (with_reducible refine (NM _).mono ?_); rintro e w1 ⟨rfl, rfl⟩)
      | (go_at_call 34; (with_reducible refine SZ.mono ?_); rintro e w2 ⟨rfl, hg⟩))
    go_ret
    exact ⟨rfl, hg⟩
end Go.Proofs.Ythpeeldpalmakaa
