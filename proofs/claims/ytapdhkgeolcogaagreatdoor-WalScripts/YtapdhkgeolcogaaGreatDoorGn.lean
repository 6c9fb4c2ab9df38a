/- Append: what it refuses; how a file grows. Append, where it is done. Append, of a new file. Append, whatever it is asked. What a crash leaves of one file. -/
import Derived.Test.YtapdhkgeolcogaaGreatDoorGm
import Derived.Deep.CutBlock
namespace Go.Proofs.YtapdhkgeolcogaaGreatDoor
open Go.RowKit Dsk
set_option linter.unusedVariables false

/-- 'm[name] = f', of a name that isn't there. -/
theorem wpList_update_M (w : World) {ops : Array Oper} {rest : List Oper} {o : Oper} {a : Act} {Q : Exit → Act → World → Prop} (hg : o.guard = none) (mo x v : Operand) (hop : o.op = Op.mapUpdate 64 mo x v)
    {bm : Nat} {M : List (List UInt8 × Nat)} (hm : a.eval mo = .map (some bm)) (h : MapOf w bm M) {s : ByteArray} (hs : s.data.toList.length ≤ 16) (hf : (M.any fun p => p.1 == s.data.toList) = false) (hl : M.length ≤ 64) {f : Nat} (hx : a.eval x = .string s) (hv : a.eval v = .pointer (some ⟨f, 0, none⟩))
    (hK : ∀ w', MapOf w' bm (M ++ [(s.data.toList, f)]) → w.grownBy w' (some bm) → wpList Tryz.prog ops Q rest (a.put o.dst undef) w') : wpList Tryz.prog ops Q (o :: rest) a w := by
  obtain ⟨D, h1, T⟩ := h
  have hs' : s.size ≤ 140737488351232 := by rw [size_list]; omega
  refine wpList_mapUpdate_own w hg mo x v 64 hop 9 83 mapLaw Tryz.underlying64 pE bm _ D hm h1 (by rw [T.size]; unfold maxLen; omega) _ _ _ hx hv (keyS hs') _ [] (pE_some f) fun w' h2 h3 => hK w' ⟨_, owns_tight h2, T.put (h1.tidy mapLaw) hs hf f⟩ h3
/-- 'len(m)'. -/
theorem wpList_len_M (w : World) {ops : Array Oper} {rest : List Oper} {o : Oper} {a : Act} {Q : Exit → Act → World → Prop} (hg : o.guard = none) (mo : Operand) (hop : o.op = Op.call { callee := Callee.builtin Builtin.len, args := #[mo], argTypes := #[64] })
    {bm : Nat} {M : List (List UInt8 × Nat)} (hm : a.eval mo = .map (some bm)) (h : MapOf w bm M) (hK : wpList Tryz.prog ops Q rest (a.put o.dst (.int .i64 (M.length : Int))) w) : wpList Tryz.prog ops Q (o :: rest) a w := by
  obtain ⟨D, h1, T⟩ := h
  refine wpList_len_own w hg mo 64 hop 9 83 Tryz.underlying64 pE bm _ D hm h1 ?_
  rw [T.size]
  exact hK
theorem run_len_M {w : World} {bm : Nat} {M : List (List UInt8 × Nat)} (h : MapOf w bm M) (ty : TypeId) : (Builtin.len_ #[64] ty #[.map (some bm)]).run Tryz.prog w = .ok (.int .i64 (M.length : Int)) w := by
  obtain ⟨D, h1, T⟩ := h
  rw [h1.len Tryz.underlying64 ty, T.size]
/-- How a file that was appended to lies in memory. -/
theorem FilD.add {W w1 w3 : World} {f : Nat} {vb vw vb' vw' : Value} {fl : Fl} {G : Nat → Prop} {by' : List UInt8} {ws' : List (Int × Nat)} (h : FilD W f vb vw fl) (hf : G f) (hb : ∀ k, vb.ownBlock = some k → G k) (hw : ∀ k, vw.ownBlock = some k → G k) (hlt : ∀ k, G k → k < W.heap.size)
    (O1 : eB.Own w1 0 vb' by') (g1 : W.grownBy w1 vb.ownBlock) (l1 : vb'.ownBlock = vb.ownBlock ∨ vb'.ownBlock = some W.heap.size)
    (O3 : eW.Own w3 0 vw' ws') (g3 : (w1.setCell ⟨f, 0, none⟩ vb').grownBy w3 vw.ownBlock) (l3 : vw'.ownBlock = vw.ownBlock ∨ ∃ k, vw'.ownBlock = some k ∧ w1.heap.size ≤ k) :
    Fil (w3.setCell ⟨f, 1, none⟩ vw') f ⟨by', ws'⟩ (fun k => k < w3.heap.size ∧ (G k ∨ W.heap.size ≤ k)) ∧ Chg G W (w3.setCell ⟨f, 1, none⟩ vw') := by
  have gs1 := grown_set w1 ⟨f, 0, none⟩ vb'
  have gs3 := grown_set w3 ⟨f, 1, none⟩ vw'
  have z1 := g1.size
  have z3 := g3.size
  rw [size_set] at z3
  have fW := hlt f hf
  have nfb : some f ≠ vb.ownBlock := fun e => h.nb e.symm
  have nfw : some f ≠ vw.ownBlock := fun e => h.nw e.symm
  -- vb' is none of f's and vw's blocks
  have hb' : ∀ k, vb'.ownBlock = some k → k ≠ f ∧ vw.ownBlock ≠ some k ∧ (G k ∨ W.heap.size ≤ k) := fun k hk => by
    rcases l1 with e | e
    · rw [e] at hk
      exact ⟨fun c => h.nb (by rw [hk, c]), h.bw k hk, .inl (hb k hk)⟩
    · rw [e] at hk
      injection hk with hk
      exact ⟨by omega, fun c => by have := hlt k (hw k c); omega, .inr (by omega)⟩
  have hw' : ∀ k, vw'.ownBlock = some k → k ≠ f ∧ vb'.ownBlock ≠ some k ∧ (G k ∨ W.heap.size ≤ k) := fun k hk => by
    rcases l3 with e | ⟨j, e, hj⟩
    · rw [e] at hk
      exact ⟨fun c => h.nw (by rw [hk, c]), fun c => (hb' k c).2.1 hk, .inl (hw k hk)⟩
    · rw [e] at hk
      injection hk with hk
      refine ⟨by omega, fun c => ?_, .inr (by omega)⟩
      have := (O1.lt k c).2
      omega
  have k0 : (w1.setCell ⟨f, 0, none⟩ vb').cell? ⟨f, 0, none⟩ = some vb' := set_same (g1.cell h.c0 nfb)
  have k1 : (w1.setCell ⟨f, 0, none⟩ vb').cell? ⟨f, 1, none⟩ = some vw := (set_other (by simp)).trans (g1.cell h.c1 nfb)
  have f1 : ∀ i, w1.frozen? ⟨f, i, none⟩ = false := fun i => by rw [World.frozen?_of_block (w := W) (a := ⟨f, i, none⟩) (g1.block f fW nfb)]; exact h.fr i
  have f3 : ∀ i, w3.frozen? ⟨f, i, none⟩ = false := fun i => by
    rw [World.frozen?_of_block (w := w1.setCell ⟨f, 0, none⟩ vb') (a := ⟨f, i, none⟩) (g3.block f (by rw [size_set]; omega) nfw)]
    exact (World.frozen?_setCell _ _ _ _).trans (f1 i)
  have O1' : eB.Own (w1.setCell ⟨f, 0, none⟩ vb') 0 vb' by' := O1.but gs1 fun k hk e => (hb' k hk).1 (by injection e with e; exact e.symm)
  refine ⟨⟨vb', vw', ⟨(set_other (by simp)).trans (g3.cell k0 nfw), set_same (g3.cell k1 nfw), fun i => (World.frozen?_setCell _ _ _ _).trans (f3 i), ?_, ?_, fun e => (hb' f e).1 rfl, fun e => (hw' f e).1 rfl, fun k hk e => (hw' k e).2.1 hk⟩, ⟨by omega, .inl hf⟩, fun k hk => ⟨?_, (hb' k hk).2.2⟩, fun k hk => ⟨(O3.lt k hk).2, (hw' k hk).2.2⟩, fun k hk => by rw [size_set]; exact hk.1⟩, ?_⟩
  · exact (O1'.but g3 fun k hk e => (hb' k hk).2.1 e).but gs3 fun k hk e => (hb' k hk).1 (by injection e with e; exact e.symm)
  · exact O3.but gs3 fun k hk e => (hw' k hk).1 (by injection e with e; exact e.symm)
  · have := (O1.lt k hk).2; omega
  · have c1 : Chg G W w1 := Chg.of g1 hb
    have c2 := c1.grown gs1 fun k hk => .inl (by injection hk with hk; rw [← hk]; exact hf)
    have c3 := c2.grown g3 fun k hk => .inl (hw k hk)
    exact c3.grown gs3 fun k hk => .inl (by injection hk with hk; rw [← hk]; exact hf)
/-- The count of writes is another one. -/
theorem DkD.made {w : World} {b bm : Nat} {M : List (List UInt8 × Nat)} {c : Nat → Fl} {G : Nat → Nat → Prop} {m : Int} (h : DkD w b bm M c G m) (m' : Int) : DkD (w.setCell ⟨b, 1, none⟩ (.int .i64 m')) b bm M c G m' := by
  have C : Chg (fun k => k = b) w (w.setCell ⟨b, 1, none⟩ (.int .i64 m')) := Chg.of (grown_set w _ _) fun k hk => by injection hk with hk; exact hk.symm
  refine ⟨(set_other (by simp)).trans h.c0, set_same h.c1, fun i => (World.frozen?_setCell _ _ _ _).trans (h.fr i), h.map.kept C fun e => h.bb e.symm, fun p hp => (h.fil p hp).kept C fun k hk e => (h.base p hp k hk).1 e, h.inj, h.apart, h.base, h.bb⟩

set_option maxRecDepth 100000 in
set_option maxHeartbeats 800000 in
theorem app_bad (b : Nat) (s : ByteArray) (hs : s.size ≤ 140737488351232) (v : Value) (h : isNm s.data.toList = false) (w : World) :
    Calls Tryz.prog 21 #[.pointer (some ⟨b, 0, none⟩), .string s, v] w fun e w' => e = .returned (.int .i64 1) ∧ w' = w := by
  have NM := name_any s hs
  rw [h] at NM
  clear h
  go_enter Tryz.func21, Tryz.ntmps21
  go_wp2_with (go_at_call 45; (with_reducible refine (NM _).mono ?_); rintro e w1 ⟨rfl, rfl⟩)
  go_ret
  exact ⟨rfl, rfl⟩
set_option maxRecDepth 100000 in
set_option maxHeartbeats 800000 in
theorem app_many (b bm : Nat) (M : List (List UInt8 × Nat)) (s : ByteArray) (hs : s.size ≤ 140737488351232) (v : Value) (h : isNm s.data.toList = true) (w : World) (c0 : w.cell? ⟨b, 0, none⟩ = some (.map (some bm))) (hm : MapOf w bm M) (hf : (M.any fun p => p.1 == s.data.toList) = false) (hl : M.length = 64) :
    Calls Tryz.prog 21 #[.pointer (some ⟨b, 0, none⟩), .string s, v] w fun e w' => e = .returned (.int .i64 3) ∧ w' = w := by
  have NM := name_any s hs
  rw [h] at NM
  have LK := hm.look_no hs hf w (grown_refl _ _)
  have LN := fun ty => run_len_M hm ty
  rw [hl] at LN
  clear h hf hm hl
  go_enter Tryz.func21, Tryz.ntmps21
  go_wp2_with (go_at_call 45; (with_reducible refine (NM _).mono ?_); rintro e w1 ⟨rfl, rfl⟩)
  go_ret
  exact ⟨rfl, rfl⟩
set_option maxRecDepth 100000 in
set_option maxHeartbeats 1600000 in
theorem app_full (b : Nat) (bm : Nat) (M : List (List UInt8 × Nat)) (c : Nat → Fl) (G : Nat → Nat → Prop) (m : Int) (s : ByteArray) (hs : s.size ≤ 140737488351232) (ad : Option Addr) (n cp : Nat) (hn : n ≤ 140737488351232) (h : isNm s.data.toList = true) (w : World) (hD : DkD w b bm M c G m) (ht : tot (lay M c) ≤ 1048576) (hfull : 1048576 < tot (lay M c) + n) (hl : (M.any fun p => p.1 == s.data.toList) = true ∨ M.length ≠ 64) :
    Calls Tryz.prog 21 #[.pointer (some ⟨b, 0, none⟩), .string s, .slice ad n cp] w fun e w' => e = .returned (.int .i64 3) ∧ w.grownBy w' none := by
  have NM := name_any s hs
  rw [h] at NM
  have c0 := hD.c0
  have SZ := size_any hD ht
  generalize tot (lay M c) = T at SZ ht hfull
  have q1 : decide (1048576 - (T : Int) < (n : Int)) = true := decide_eq_true (by omega)
  have q2 : (1048576 - (T : Int) < (n : Int)) := by omega
  have q3 : (T : Int) ≤ 1048576 := by omega
  cases ha : M.any fun p => p.1 == s.data.toList with
  | true =>
    obtain ⟨f, hf⟩ := any_nm.1 ha
    have LK := hD.map.look_yes hs hf w (grown_refl _ _)
    clear h hD ha hl hf hfull ht
    go_enter Tryz.func21, Tryz.ntmps21
    go_wp2_with (first
      | (go_at_call 45; (with_reducible refine (NM _).mono ?_); rintro e w1 ⟨rfl, rfl⟩)
      | (go_at_call 46; (with_reducible refine SZ.mono ?_); rintro e w2 ⟨rfl, hg⟩))
    go_ret
    exact ⟨rfl, hg⟩
  | false =>
    have LK := hD.map.look_no hs ha w (grown_refl _ _)
    have LN := fun ty => run_len_M hD.map ty
    have hl' : M.length ≠ 64 := by
      rcases hl with e | e
      · rw [ha] at e; cases e
      · exact e
    have q4 : ((M.length : Int) == 64) = false := by simp; omega
    have q5 : ¬ (M.length : Int) = 64 := by omega
    clear h hD ha hl hfull ht hl'
    go_enter Tryz.func21, Tryz.ntmps21
    go_wp2_with (first
      | (go_at_call 45; (with_reducible refine (NM _).mono ?_); rintro e w1 ⟨rfl, rfl⟩)
      | (go_at_call 46; (with_reducible refine SZ.mono ?_); rintro e w2 ⟨rfl, hg⟩))
    go_ret
    exact ⟨rfl, hg⟩
end Go.Proofs.YtapdhkgeolcogaaGreatDoor
namespace Go.Proofs.YtapdhkgeolcogaaGreatDoor
open Go.RowKit Dsk
set_option linter.unusedVariables false

/-- What Append leaves, of a file that was there; of a new one. -/
def AppOld (b f : Nat) (fl : Fl) (l : List UInt8) (m : Int) (G : Nat → Prop) (w w' : World) : Prop := ∃ w8 G', w' = w8.setCell ⟨b, 1, none⟩ (.int .i64 (m + 1)) ∧ Fil w8 f ⟨fl.by_ ++ l, fl.ws ++ [(m, l.length)]⟩ G' ∧ (∀ k, G' k → G k ∨ w.heap.size ≤ k) ∧ Chg G w w8
def AppNew (b bm : Nat) (M : List (List UInt8 × Nat)) (nm l : List UInt8) (m : Int) (w w' : World) : Prop := ∃ w8 f G', w' = w8.setCell ⟨b, 1, none⟩ (.int .i64 (m + 1)) ∧ Fil w8 f ⟨l, [(m, l.length)]⟩ G' ∧ MapOf w8 bm (M ++ [(nm, f)]) ∧ (∀ k, G' k → w.heap.size ≤ k) ∧ Chg (fun k => k = bm) w w8
/-- A row of writes of its own. -/
def _root_.Go.World.eWOwn (w : World) (v : Value) (l : List (Int × Nat)) : Prop := eW.Own w 0 v l
set_option maxRecDepth 100000 in
set_option maxHeartbeats 3200000 in
theorem app_old (b bm f : Nat) (M : List (List UInt8 × Nat)) (c : Nat → Fl) (G : Nat → Nat → Prop) (m : Int) (s : ByteArray) (hs : s.size ≤ 140737488351232) (ad : Option Addr) (cp : Nat) (l : List UInt8) (h : isNm s.data.toList = true) (w : World) (hD : DkD w b bm M c G m) (hroom : tot (lay M c) + l.length ≤ 1048576) (hws : (c f).ws.length ≤ 1000000000) (m0 : 0 ≤ m) (m1 : m ≤ 1000000000) (hf : (s.data.toList, f) ∈ M) (hRX : eB.Rx w (.slice ad l.length cp) l) :
    Calls Tryz.prog 21 #[.pointer (some ⟨b, 0, none⟩), .string s, .slice ad l.length cp] w fun e w' => e = .returned (.int .i64 0) ∧ AppOld b f (c f) l m (G f) w w' := by
  have NM := name_any s hs
  rw [h] at NM
  have c0 := hD.c0
  have SZ := size_any hD (by omega)
  have LK := hD.map.look_yes hs hf w (grown_refl _ _)
  have hby : (c f).by_.length ≤ tot (lay M c) := mem_tot (p := (s.data.toList, c f)) (List.mem_map.2 ⟨_, hf, rfl⟩)
  generalize tot (lay M c) = T at SZ hroom hby
  have q1 : decide (1048576 - (T : Int) < (l.length : Int)) = false := decide_eq_false (by omega)
  have q2 : ¬ (1048576 - (T : Int) < (l.length : Int)) := by omega
  have q3 : (T : Int) ≤ 1048576 := by omega
  have HDw : Hid (DkD w b bm M c G m) := hD
  have HRX : Hid (eB.Rx w (.slice ad l.length cp) l) := hRX
  have HM : Hid ((s.data.toList, f) ∈ M) := hf
  clear h hD hf hRX
  go_enter Tryz.func21, Tryz.ntmps21
  go_upto_region 9 with (first
    | (go_at_call 45; (with_reducible refine (NM _).mono ?_); rintro e w1 ⟨rfl, e1⟩; have e1' := e1.symm; clear e1; subst e1')
    | (go_at_call 46; (with_reducible refine SZ.mono ?_); rintro e W ⟨rfl, hg⟩))
  · have RX := HRX.out.grown hg
    have HD : Hid (DkD W b bm M c G m) := HDw.out.grown hg
    obtain ⟨fl, hfl⟩ : ∃ fl, fl = c f := ⟨_, rfl⟩
    rw [← hfl] at hws hby
    obtain ⟨vb, vw, hF, hGf, hGb, hGw, hGlt⟩ := HD.out.fil _ HM.out
    have hbG : ∀ k, G f k → k ≠ b := fun k hk => (HD.out.base _ HM.out k hk).1
    rw [← hfl] at hF
    have HFL : Hid (fl = c f) := hfl
    have HF : Hid (FilD W f vb vw fl) := hF
    have hgz := hg.size
    clear hF hfl LK SZ q1 q2 c0 NM
    have c1W := HD.out.c1
    have bfr := HD.out.fr 1
    have fb0 := HF.out.c0
    have ffr0 := HF.out.fr 0
    have OB := HF.out.rb
    have OW := HF.out.rw
    have hblt : b < W.heap.size := World.block_lt_of_cell? W _ c1W
    have hflt : f < W.heap.size := World.block_lt_of_cell? W _ fb0
    have KEEP : Hid (∀ w5, W.grownBy w5 vb.ownBlock → w5.cell? ⟨f, 0, none⟩ = some vb ∧ w5.frozen? ⟨f, 0, none⟩ = false) := fun w5 G5 => ⟨G5.cell fb0 (fun e => HF.out.nb e.symm), by rw [World.frozen?_of_block (w := W) (a := ⟨f, 0, none⟩) (G5.block f hflt (fun e => HF.out.nb e.symm))]; exact HF.out.fr 0⟩
    go_upto_region 10 with (at_builtin; refine Elm.wpList_append (E := eB) rfl (.tmp 57) (.tmp 58) rfl 0 _ fl.by_ rfl OB _ l rfl RX (by omega) (by show (fl.by_.length + l.length) * 1 ≤ _; omega) (Nat.zero_le _) ?_; intro ad1 n1 cp1 w5 O5 G5 L5; have k50 := (KEEP.out w5 G5).1; have f50 := (KEEP.out w5 G5).2)
    have nbv : some b ≠ vb.ownBlock := fun e => hbG b (hGb b e.symm) rfl
    have nfv : some f ≠ vb.ownBlock := fun e => HF.out.nb e.symm
    have nbw : some b ≠ vw.ownBlock := fun e => hbG b (hGw b e.symm) rfl
    have nfw : some f ≠ vw.ownBlock := fun e => HF.out.nw e.symm
    have fb : f ≠ b := hbG f hGf
    obtain ⟨w6, hw6⟩ : ∃ w6, w6 = w5.setCell ⟨f, 0, none⟩ (.slice ad1 n1 cp1) := ⟨_, rfl⟩
    have gs6 : w5.grownBy w6 (some f) := by rw [hw6]; exact grown_set _ _ _
    have k61 : w6.cell? ⟨f, 1, none⟩ = some vw := by rw [hw6]; exact (set_other (by simp)).trans (G5.cell HF.out.c1 nfv)
    have k6b : w6.cell? ⟨b, 1, none⟩ = some (.int .i64 m) := gs6.cell (G5.cell c1W nbv) (fun e => fb (by injection e with e; exact e.symm))
    have z6 : w6.heap.size = w5.heap.size := by rw [hw6]; exact size_set _ _ _
    have z5 := G5.size
    have f61 : ∀ i, w6.frozen? ⟨f, i, none⟩ = false := fun i => by
      rw [hw6, World.frozen?_setCell, World.frozen?_of_block (w := W) (a := ⟨f, i, none⟩) (G5.block f hflt nfv)]
      exact HF.out.fr i
    have b61 : w6.frozen? ⟨b, 1, none⟩ = false := by
      rw [World.frozen?_of_block (w := w5) (a := ⟨b, 1, none⟩) (gs6.block b (by omega) (fun e => fb (by injection e with e; exact e.symm))), World.frozen?_of_block (w := W) (a := ⟨b, 1, none⟩) (G5.block b hblt nbv)]
      exact bfr
    have OW6 : eW.Own w6 0 vw fl.ws := (OW.but G5 fun k hk e => HF.out.bw k e hk).but gs6 fun k hk e => nfw (by rw [hk]; exact e)
    have HW6 : Hid (w6 = w5.setCell ⟨f, 0, none⟩ (.slice ad1 n1 cp1)) := hw6
    have Z6 : Hid (w6.heap.size = w5.heap.size) := z6
    have h6f : f < w6.heap.size := by omega
    have h6b : b < w6.heap.size := by omega
    rw [← hw6]
    clear hw6 z6 KEEP k50 f50 OB fb0 ffr0 c1W bfr gs6
    have OW7 : ∀ o, (w6.alloc o).drew.eWOwn vw fl.ws := fun o => OW6.grown (grown_drew (World.grownBy_alloc w6 o none))
    have hid0 : (w6.alloc (Obj.cells #[.int .i64 m, .int .i64 (l.length : Int)] 93)).drew.cell? ⟨w6.heap.size, 0, none⟩ = some (.int .i64 m) := new_at w6 rfl rfl
    have hid1 : (w6.alloc (Obj.cells #[.int .i64 m, .int .i64 (l.length : Int)] 93)).drew.cell? ⟨w6.heap.size, 1, none⟩ = some (.int .i64 (l.length : Int)) := new_at w6 rfl rfl
    have RW7 : eW.Rx (w6.alloc (Obj.cells #[.int .i64 m, .int .i64 (l.length : Int)] 93)).drew (.slice (some ⟨w6.heap.size, 0, none⟩) 1 1) [(m, l.length)] := Elm.rx_one fun j u hu => by
      match j, hu with
      | 0, hu => injection hu with hu; rw [← hu]; exact hid0
      | 1, hu => injection hu with hu; rw [← hu]; exact hid1
    have kb : Hid (∀ {o1 w7}, (w6.alloc o1).drew.grownBy w7 vw.ownBlock → w6.grownBy w7 vw.ownBlock ∧ w7.cell? ⟨f, 1, none⟩ = some vw ∧ w7.frozen? ⟨f, 1, none⟩ = false ∧ w7.cell? ⟨b, 1, none⟩ = some (.int .i64 m) ∧ w7.frozen? ⟨b, 1, none⟩ = false) := fun {o1 w7} g => by
      have g' : w6.grownBy w7 vw.ownBlock := grown_more ((grown_drew (World.grownBy_alloc w6 o1 none)).but _) g (fun _ e => .inl e)
      exact ⟨g', g'.cell k61 nfw, by rw [World.frozen?_of_block (w := w6) (a := ⟨f, 1, none⟩) (g'.block f h6f nfw)]; exact f61 1, g'.cell k6b nbw, by rw [World.frozen?_of_block (w := w6) (a := ⟨b, 1, none⟩) (g'.block b h6b nbw)]; exact b61⟩
    have hwl : (fl.ws.length + [(m, l.length)].length) * 16 ≤ 140737488355328 := by simp; omega
    have hwl2 : fl.ws.length + [(m, l.length)].length ≤ 4611686018427387904 := by simp; omega
    go_region_law (refine step_of rfl (Elm.wp_append (E := eW) (.tmp 66) (.tmp 74) rfl 0 vw fl.ws rfl (OW7 _) _ [(m, l.length)] rfl RW7 hwl2 hwl (Nat.zero_le _) ?_); intro ad3 n3 cp3 w7 O7 G7' L7; have G7 := (kb.out G7').1; have k71 := (kb.out G7').2.1; have f71 := (kb.out G7').2.2.1; have k7b := (kb.out G7').2.2.2.1; have f7b := (kb.out G7').2.2.2.2)
    all_goals
      have hbk : (w7.setCell ⟨f, 1, none⟩ (.slice ad3 n3 cp3)).cell? ⟨b, 1, none⟩ = some (.int .i64 m) := (set_other (fun e => fb (by injection e))).trans k7b
      have hbf : (w7.setCell ⟨f, 1, none⟩ (.slice ad3 n3 cp3)).frozen? ⟨b, 1, none⟩ = false := (World.frozen?_setCell _ _ _ _).trans f7b
      obtain ⟨w8, hw8⟩ : ∃ w8, w8 = w7.setCell ⟨f, 1, none⟩ (.slice ad3 n3 cp3) := ⟨_, rfl⟩
      rw [← hw8] at hbk hbf ⊢
      have HW8 : Hid (w8 = w7.setCell ⟨f, 1, none⟩ (.slice ad3 n3 cp3)) := hw8
      clear hw8 k71 f71 k7b f7b kb RW7 hid0 hid1 OW7 OW6 OW k61 k6b f61 b61
      go_wp2
      go_ret
      have L7' : (Value.slice ad3 n3 cp3).ownBlock = vw.ownBlock ∨ ∃ k, (Value.slice ad3 n3 cp3).ownBlock = some k ∧ w5.heap.size ≤ k := by
        rcases L7 with e | e
        · exact .inl e
        · refine .inr ⟨_, e, ?_⟩
          have := Z6.out
          simp
          omega
      have g3' : (w5.setCell ⟨f, 0, none⟩ (.slice ad1 n1 cp1)).grownBy w7 vw.ownBlock := by rw [← HW6.out]; exact G7
      have R := FilD.add HF.out hGf hGb hGw hGlt O5 G5 L5 O7 g3' L7'
      rw [← HW8.out] at R
      have hz := hg.size
      have CC : Chg (G f) w w8 := (Chg.of (F := G f) hg (by simp)).trans R.2 fun k hk => .inl hk
      rw [← HFL.out]
      exact ⟨rfl, w8, _, rfl, R.1, fun k hk => hk.2.imp id (fun e => by omega), CC⟩
end Go.Proofs.YtapdhkgeolcogaaGreatDoor
namespace Go.Proofs.YtapdhkgeolcogaaGreatDoor
open Go.RowKit Dsk
set_option linter.unusedVariables false

set_option maxRecDepth 100000 in
set_option maxHeartbeats 3200000 in
theorem app_new (b bm : Nat) (M : List (List UInt8 × Nat)) (c : Nat → Fl) (G : Nat → Nat → Prop) (m : Int) (s : ByteArray) (hs : s.size ≤ 140737488351232) (hs16 : s.data.toList.length ≤ 16) (ad : Option Addr) (cp : Nat) (l : List UInt8) (h : isNm s.data.toList = true) (w : World) (hD : DkD w b bm M c G m) (hroom : tot (lay M c) + l.length ≤ 1048576) (hlen : M.length < 64) (m0 : 0 ≤ m) (m1 : m ≤ 1000000000) (hno : (M.any fun p => p.1 == s.data.toList) = false) (hRX : eB.Rx w (.slice ad l.length cp) l) (hdj : l ≠ [] → ∀ k, (Value.slice ad l.length cp).ownBlock = some k → k ≠ bm) :
    Calls Tryz.prog 21 #[.pointer (some ⟨b, 0, none⟩), .string s, .slice ad l.length cp] w fun e w' => e = .returned (.int .i64 0) ∧ AppNew b bm M s.data.toList l m w w' := by
  have NM := name_any s hs
  rw [h] at NM
  have c0 := hD.c0
  have SZ := size_any hD (by omega)
  have LK := hD.map.look_no hs hno w (grown_refl _ _)
  have LN := fun ty => run_len_M hD.map ty
  generalize tot (lay M c) = T at SZ hroom
  have q1 : decide (1048576 - (T : Int) < (l.length : Int)) = false := decide_eq_false (by omega)
  have q2 : ¬ (1048576 - (T : Int) < (l.length : Int)) := by omega
  have q3 : (T : Int) ≤ 1048576 := by omega
  have q4 : ((M.length : Int) == 64) = false := by simp; omega
  have q5 : ¬ (M.length : Int) = 64 := by omega
  have HDw : Hid (DkD w b bm M c G m) := hD
  have HRX : Hid (eB.Rx w (.slice ad l.length cp) l) := hRX
  have HM : Hid ((M.any fun p => p.1 == s.data.toList) = false) := hno
  have HL : Hid (M.length < 64) := hlen
  clear h hD hno hRX hlen
  go_enter Tryz.func21, Tryz.ntmps21
  go_upto_region 9 with (first
    | (go_at_call 45; (with_reducible refine (NM _).mono ?_); rintro e w1 ⟨rfl, e1⟩; have e1' := e1.symm; clear e1; subst e1')
    | (go_at_call 46; (with_reducible refine SZ.mono ?_); rintro e w2 ⟨rfl, hg⟩; have c0' := hg.cell c0 (by simp); have c02 : ∀ o, (w2.alloc o).cell? ⟨b, 0, none⟩ = some (.map (some bm)) := (fun o => (World.grownBy_alloc w2 o none).cell c0' (by simp)); have mp : ∀ o, MapOf (w2.alloc o) bm M := (fun o => (HDw.out.map.grown hg (by simp)).grown (World.grownBy_alloc w2 o none) (by simp)))
    | (at_mapUpdate; refine wpList_update_M _ rfl _ _ _ rfl rfl (mp _) hs16 HM.out (by have := HL.out; omega) rfl rfl ?_; intro W hmW hgW))
  · have hz2 := hg.size
    have DA := HDw.out.grown (grown_more hg (World.grownBy_alloc w2 (Obj.cells #[.slice none 0 0, .slice none 0 0] 91) none) (by simp))
    obtain ⟨f, hf⟩ : ∃ f, f = w2.heap.size := ⟨_, rfl⟩
    have hbm2 : bm < w2.heap.size := (HDw.out.map.grown hg (by simp)).lt
    have nbm : some f ≠ some bm := fun e => by injection e with e; omega
    have hgW1 : w.grownBy W (some bm) := grown_more ((grown_more hg (World.grownBy_alloc w2 _ none) (by simp)).but _) hgW (fun _ e => .inl e)
    have CW : Chg (fun k => k = bm) w W := Chg.of hgW1 fun k hk => by injection hk with hk; exact hk.symm
    have HC1 : Hid (W.cell? ⟨b, 1, none⟩ = some (.int .i64 m)) := CW.cell HDw.out.c1 HDw.out.bb
    have HFR : Hid (∀ i, W.frozen? ⟨b, i, none⟩ = false) := fun i => (CW.frozen (a := ⟨b, i, none⟩) (World.block_lt_of_cell? w ⟨b, 0, none⟩ HDw.out.c0) HDw.out.bb).trans (HDw.out.fr i)
    have RX : eB.Rx W (.slice ad l.length cp) l := HRX.out.kept' CW hdj
    have hF : FilD W f (.slice none 0 0) (.slice none 0 0) ⟨[], []⟩ := ⟨hgW.cell (new_at w2 hf rfl) nbm, hgW.cell (new_at w2 hf rfl) nbm, fun i => by
      rw [World.frozen?_of_block (w := w2.alloc (Obj.cells #[.slice none 0 0, .slice none 0 0] 91)) (a := ⟨f, i, none⟩) (hgW.block f (by rw [hf]; simp) nbm), hf]
      simp, Elm.nil _ _, Elm.nil _ _, by simp [Value.ownBlock], by simp [Value.ownBlock], by simp [Value.ownBlock]⟩
    obtain ⟨vb, hvb⟩ : ∃ vb, vb = Value.slice none 0 0 := ⟨_, rfl⟩
    obtain ⟨vw, hvw⟩ : ∃ vw, vw = Value.slice none 0 0 := ⟨_, rfl⟩
    obtain ⟨fl, hfl⟩ : ∃ fl : Fl, fl = ⟨[], []⟩ := ⟨_, rfl⟩
    have hF' : FilD W f vb vw fl := by rw [hvb, hvw, hfl]; exact hF
    have HF : Hid (FilD W f vb vw fl) := hF'
    obtain ⟨G0, hG0⟩ : ∃ G0 : Nat → Prop, ∀ k, G0 k ↔ k = f := ⟨fun k => k = f, fun _ => Iff.rfl⟩
    have hGb : ∀ k, vb.ownBlock = some k → G0 k := by rw [hvb]; simp [Value.ownBlock]
    have hGw : ∀ k, vw.ownBlock = some k → G0 k := by rw [hvw]; simp [Value.ownBlock]
    have hby : fl.by_.length = 0 := by rw [hfl]; rfl
    have hws : fl.ws.length = 0 := by rw [hfl]; rfl
    have HFL : Hid (fl = ⟨[], []⟩) := hfl
    have hfW : f < W.heap.size := World.block_lt_of_cell? W _ hF.c0
    have hGlt : ∀ k, G0 k → k < W.heap.size := fun k hk => by have := (hG0 k).1 hk; omega
    have hbb2 : b < w2.heap.size := World.block_lt_of_cell? w2 _ c0'
    have hbG : ∀ k, G0 k → k ≠ b := fun k hk => by have := (hG0 k).1 hk; omega
    have hGf : G0 f := (hG0 f).2 rfl
    have HG0 : Hid (∀ k, G0 k ↔ k = f) := hG0
    have hby2 : fl.by_.length ≤ 0 := by omega
    have hws2 : fl.ws.length ≤ 0 := by omega
    have HMW : Hid (MapOf W bm (M ++ [(s.data.toList, f)])) := by rw [hf]; exact hmW
    have HCW : Hid (Chg (fun k => k = bm) w W) := CW
    have hz : Hid (w.heap.size ≤ f) := by rw [hf]; exact hz2
    have hbmf : Hid (bm ≠ f) := fun e => nbm (by rw [e])
    have hwz : Hid (w.heap.size ≤ W.heap.size) := CW.size
    rw [← hf]
    clear hF hF' hfl hvb hvw LK LN SZ q1 q2 q4 q5 c0 NM mp c02 c0' hmW hgW hgW1 DA nbm CW hg hbm2 hbb2 hz2 hf HM HL hfW hG0 hby hws
    have c1W := HC1.out
    have bfr := HFR.out 1
    have fb0 := HF.out.c0
    have ffr0 := HF.out.fr 0
    have OB := HF.out.rb
    have OW := HF.out.rw
    have hblt : b < W.heap.size := World.block_lt_of_cell? W _ c1W
    have hflt : f < W.heap.size := World.block_lt_of_cell? W _ fb0
    have KEEP : Hid (∀ w5, W.grownBy w5 vb.ownBlock → w5.cell? ⟨f, 0, none⟩ = some vb ∧ w5.frozen? ⟨f, 0, none⟩ = false) := fun w5 G5 => ⟨G5.cell fb0 (fun e => HF.out.nb e.symm), by rw [World.frozen?_of_block (w := W) (a := ⟨f, 0, none⟩) (G5.block f hflt (fun e => HF.out.nb e.symm))]; exact HF.out.fr 0⟩
    go_upto_region 10 with (at_builtin; refine Elm.wpList_append (E := eB) rfl (.tmp 57) (.tmp 58) rfl 0 _ fl.by_ rfl OB _ l rfl RX (by omega) (by show (fl.by_.length + l.length) * 1 ≤ _; omega) (Nat.zero_le _) ?_; intro ad1 n1 cp1 w5 O5 G5 L5; have k50 := (KEEP.out w5 G5).1; have f50 := (KEEP.out w5 G5).2)
    have nbv : some b ≠ vb.ownBlock := fun e => hbG b (hGb b e.symm) rfl
    have nfv : some f ≠ vb.ownBlock := fun e => HF.out.nb e.symm
    have nbw : some b ≠ vw.ownBlock := fun e => hbG b (hGw b e.symm) rfl
    have nfw : some f ≠ vw.ownBlock := fun e => HF.out.nw e.symm
    have fb : f ≠ b := hbG f hGf
    obtain ⟨w6, hw6⟩ : ∃ w6, w6 = w5.setCell ⟨f, 0, none⟩ (.slice ad1 n1 cp1) := ⟨_, rfl⟩
    have gs6 : w5.grownBy w6 (some f) := by rw [hw6]; exact grown_set _ _ _
    have k61 : w6.cell? ⟨f, 1, none⟩ = some vw := by rw [hw6]; exact (set_other (by simp)).trans (G5.cell HF.out.c1 nfv)
    have k6b : w6.cell? ⟨b, 1, none⟩ = some (.int .i64 m) := gs6.cell (G5.cell c1W nbv) (fun e => fb (by injection e with e; exact e.symm))
    have z6 : w6.heap.size = w5.heap.size := by rw [hw6]; exact size_set _ _ _
    have z5 := G5.size
    have f61 : ∀ i, w6.frozen? ⟨f, i, none⟩ = false := fun i => by
      rw [hw6, World.frozen?_setCell, World.frozen?_of_block (w := W) (a := ⟨f, i, none⟩) (G5.block f hflt nfv)]
      exact HF.out.fr i
    have b61 : w6.frozen? ⟨b, 1, none⟩ = false := by
      rw [World.frozen?_of_block (w := w5) (a := ⟨b, 1, none⟩) (gs6.block b (by omega) (fun e => fb (by injection e with e; exact e.symm))), World.frozen?_of_block (w := W) (a := ⟨b, 1, none⟩) (G5.block b hblt nbv)]
      exact bfr
    have OW6 : eW.Own w6 0 vw fl.ws := (OW.but G5 fun k hk e => HF.out.bw k e hk).but gs6 fun k hk e => nfw (by rw [hk]; exact e)
    have HW6 : Hid (w6 = w5.setCell ⟨f, 0, none⟩ (.slice ad1 n1 cp1)) := hw6
    have Z6 : Hid (w6.heap.size = w5.heap.size) := z6
    have h6f : f < w6.heap.size := by omega
    have h6b : b < w6.heap.size := by omega
    rw [← hw6]
    clear hw6 z6 KEEP k50 f50 OB fb0 ffr0 c1W bfr gs6
    have OW7 : ∀ o, (w6.alloc o).drew.eWOwn vw fl.ws := fun o => OW6.grown (grown_drew (World.grownBy_alloc w6 o none))
    have hid0 : (w6.alloc (Obj.cells #[.int .i64 m, .int .i64 (l.length : Int)] 93)).drew.cell? ⟨w6.heap.size, 0, none⟩ = some (.int .i64 m) := new_at w6 rfl rfl
    have hid1 : (w6.alloc (Obj.cells #[.int .i64 m, .int .i64 (l.length : Int)] 93)).drew.cell? ⟨w6.heap.size, 1, none⟩ = some (.int .i64 (l.length : Int)) := new_at w6 rfl rfl
    have RW7 : eW.Rx (w6.alloc (Obj.cells #[.int .i64 m, .int .i64 (l.length : Int)] 93)).drew (.slice (some ⟨w6.heap.size, 0, none⟩) 1 1) [(m, l.length)] := Elm.rx_one fun j u hu => by
      match j, hu with
      | 0, hu => injection hu with hu; rw [← hu]; exact hid0
      | 1, hu => injection hu with hu; rw [← hu]; exact hid1
    have kb : Hid (∀ {o1 w7}, (w6.alloc o1).drew.grownBy w7 vw.ownBlock → w6.grownBy w7 vw.ownBlock ∧ w7.cell? ⟨f, 1, none⟩ = some vw ∧ w7.frozen? ⟨f, 1, none⟩ = false ∧ w7.cell? ⟨b, 1, none⟩ = some (.int .i64 m) ∧ w7.frozen? ⟨b, 1, none⟩ = false) := fun {o1 w7} g => by
      have g' : w6.grownBy w7 vw.ownBlock := grown_more ((grown_drew (World.grownBy_alloc w6 o1 none)).but _) g (fun _ e => .inl e)
      exact ⟨g', g'.cell k61 nfw, by rw [World.frozen?_of_block (w := w6) (a := ⟨f, 1, none⟩) (g'.block f h6f nfw)]; exact f61 1, g'.cell k6b nbw, by rw [World.frozen?_of_block (w := w6) (a := ⟨b, 1, none⟩) (g'.block b h6b nbw)]; exact b61⟩
    have hwl : (fl.ws.length + [(m, l.length)].length) * 16 ≤ 140737488355328 := by simp; omega
    have hwl2 : fl.ws.length + [(m, l.length)].length ≤ 4611686018427387904 := by simp; omega
    go_region_law (refine step_of rfl (Elm.wp_append (E := eW) (.tmp 66) (.tmp 74) rfl 0 vw fl.ws rfl (OW7 _) _ [(m, l.length)] rfl RW7 hwl2 hwl (Nat.zero_le _) ?_); intro ad3 n3 cp3 w7 O7 G7' L7; have G7 := (kb.out G7').1; have k71 := (kb.out G7').2.1; have f71 := (kb.out G7').2.2.1; have k7b := (kb.out G7').2.2.2.1; have f7b := (kb.out G7').2.2.2.2)
    all_goals
      have hbk : (w7.setCell ⟨f, 1, none⟩ (.slice ad3 n3 cp3)).cell? ⟨b, 1, none⟩ = some (.int .i64 m) := (set_other (fun e => fb (by injection e))).trans k7b
      have hbf : (w7.setCell ⟨f, 1, none⟩ (.slice ad3 n3 cp3)).frozen? ⟨b, 1, none⟩ = false := (World.frozen?_setCell _ _ _ _).trans f7b
      obtain ⟨w8, hw8⟩ : ∃ w8, w8 = w7.setCell ⟨f, 1, none⟩ (.slice ad3 n3 cp3) := ⟨_, rfl⟩
      rw [← hw8] at hbk hbf ⊢
      have HW8 : Hid (w8 = w7.setCell ⟨f, 1, none⟩ (.slice ad3 n3 cp3)) := hw8
      clear hw8 k71 f71 k7b f7b kb RW7 hid0 hid1 OW7 OW6 OW k61 k6b f61 b61
      go_wp2
      go_ret
      have L7' : (Value.slice ad3 n3 cp3).ownBlock = vw.ownBlock ∨ ∃ k, (Value.slice ad3 n3 cp3).ownBlock = some k ∧ w5.heap.size ≤ k := by
        rcases L7 with e | e
        · exact .inl e
        · refine .inr ⟨_, e, ?_⟩
          have := Z6.out
          simp
          omega
      have g3' : (w5.setCell ⟨f, 0, none⟩ (.slice ad1 n1 cp1)).grownBy w7 vw.ownBlock := by rw [← HW6.out]; exact G7
      have R := FilD.add (G := G0) HF.out hGf hGb hGw hGlt O5 G5 L5 O7 g3' L7'
      rw [← HW8.out] at R
      have hz' := hz.out
      have CC : Chg (fun k => k = bm) w w8 := HCW.out.trans R.2 fun k hk => .inr (by have := (HG0.out k).1 hk; omega)
      have R1 := R.1
      rw [HFL.out] at R1
      exact ⟨rfl, w8, f, _, rfl, R1, HMW.out.kept R.2 (fun e => hbmf.out ((HG0.out bm).1 e)), fun k hk => by have := hwz.out; rcases hk.2 with e | e; have := (HG0.out k).1 e; omega; omega, CC⟩
end Go.Proofs.YtapdhkgeolcogaaGreatDoor
namespace Go.Proofs.YtapdhkgeolcogaaGreatDoor
open Go.RowKit Dsk
set_option linter.unusedVariables false
set_option maxRecDepth 10000

theorem append_any (b : Nat) (s : St) (F : Nat → Prop) (nm : ByteArray) (hs : nm.size ≤ 140737488351232) (v : Value) (l : List UInt8) (w : World) (h : Dk w b s F) (m1 : s.m ≤ 1000000000) (hX : eB.Rx w v l) (hl : l.length ≤ 140737488351232) (hdj : l ≠ [] → ∀ k, v.ownBlock = some k → ¬ F k) :
    Calls Tryz.prog 21 #[.pointer (some ⟨b, 0, none⟩), .string nm, v] w fun e w' => e = .returned (.int .i64 (appE s.l nm.data.toList l.length)) ∧ ∃ F', Dk w' b (appS s nm.data.toList l) F' ∧ (∀ k, F' k → F k ∨ w.heap.size ≤ k) ∧ Chg F w w' := by
  obtain ⟨ad, cp, rfl⟩ := hX.form
  obtain ⟨bm, M, c, G, h1, h2, h3, h4⟩ := id h
  have ml : M.length = s.l.length := by rw [h2]; simp [lay]
  have hh : has s.l nm.data.toList = M.any fun p => p.1 == nm.data.toList := by rw [h2, lay_has]
  have ht : tot (lay M c) ≤ 1048576 := by rw [← h2]; exact h3.tot
  have same : ∀ er, appE s.l nm.data.toList l.length = er → er ≠ 0 → ∀ (e : Ending) (w' : World), e = .returned (.int .i64 er) ∧ w.grownBy w' none → e = .returned (.int .i64 (appE s.l nm.data.toList l.length)) ∧ ∃ F', Dk w' b (appS s nm.data.toList l) F' ∧ (∀ k, F' k → F k ∨ w.heap.size ≤ k) ∧ Chg F w w' := by
    rintro er he h0 e w' ⟨rfl, hg⟩
    refine ⟨by rw [he], F, ?_, fun k hk => .inl hk, Chg.of hg (by simp)⟩
    unfold appS
    rw [he, if_neg h0]
    exact h.grown hg
  cases hn : isNm nm.data.toList with
  | false =>
    have he : appE s.l nm.data.toList l.length = 1 := by unfold appE; rw [if_pos hn]
    exact (app_bad b nm hs _ hn w).mono fun e w' ⟨he', hw⟩ => same 1 he (by omega) e w' ⟨he', by rw [hw]; exact grown_refl _ _⟩
  | true =>
    by_cases hc : (has s.l nm.data.toList = false ∧ s.l.length = 64) ∨ 1048576 < tot s.l + l.length
    · have he : appE s.l nm.data.toList l.length = 3 := by unfold appE; rw [if_neg (by rw [hn]; simp), if_pos hc]
      by_cases hm : has s.l nm.data.toList = false ∧ s.l.length = 64
      · exact (app_many b bm M nm hs _ hn w h1.c0 h1.map (by rw [← hh]; exact hm.1) (by rw [ml]; exact hm.2)).mono fun e w' ⟨he', hw⟩ => same 3 he (by omega) e w' ⟨he', by rw [hw]; exact grown_refl _ _⟩
      · have hfull : 1048576 < tot (lay M c) + l.length := by rw [← h2]; exact hc.resolve_left hm
        refine (app_full b bm M c G s.m nm hs ad l.length cp hl hn w h1 ht hfull ?_).mono (same 3 he (by omega))
        rw [← hh, ml]
        cases hb : has s.l nm.data.toList with
        | true => exact .inl rfl
        | false => exact .inr fun c => hm ⟨hb, c⟩
    · have he : appE s.l nm.data.toList l.length = 0 := by unfold appE; rw [if_neg (by rw [hn]; simp), if_neg hc]
      have hroom : tot (lay M c) + l.length ≤ 1048576 := by rw [← h2]; have : ¬ 1048576 < tot s.l + l.length := fun c => hc (.inr c); omega
      have okA := ok_app h3 nm.data.toList l
      rw [he]
      unfold appS at okA ⊢
      rw [if_pos he] at okA ⊢
      cases hb : has s.l nm.data.toList with
      | true =>
        rw [hb] at okA
        simp only [if_true] at okA ⊢
        obtain ⟨f, hf⟩ := any_nm.1 (by rw [← hh]; exact hb)
        have hmem : (nm.data.toList, c f) ∈ s.l := by rw [h2]; exact List.mem_map.2 ⟨_, hf, rfl⟩
        have hw := h3.wait
        have hws : (c f).ws.length ≤ wait s.l := by
          obtain ⟨A, B, e⟩ := List.append_of_mem hmem
          rw [e]
          simp [wait]
          omega
        refine (app_old b bm f M c G s.m nm hs ad cp l hn w h1 hroom (by omega) h3.m0 m1 hf hX).mono ?_
        rintro e w' ⟨rfl, w8, G', rfl, hF, hG, C⟩
        have nd : (M.map (·.1)).Nodup := by obtain ⟨D, _, T⟩ := h1.map; exact T.nd
        have hD8 := (h1.turn hf C hF hG).made (s.m + 1)
        refine ⟨rfl, Foot b bm M (upd G f G'), ⟨bm, M, _, _, hD8, ?_, okA, fun _ => Iff.rfl⟩, fun k hk => ?_, ?_⟩
        · show setF s.l nm.data.toList _ = _
          rw [h2]
          exact (lay_set nd h1.inj hf (appF s.m l)).symm
        · rcases hk with e | e | ⟨p, hpm, hk⟩
          · exact .inl ((h4 k).2 (.inl e))
          · exact .inl ((h4 k).2 (.inr (.inl e)))
          · by_cases ep : p.2 = f
            · rw [ep, upd_same] at hk
              rcases hG k hk with e | e
              · exact .inl ((h4 k).2 (.inr (.inr ⟨_, hf, e⟩)))
              · exact .inr e
            · rw [upd_other _ _ ep] at hk
              exact .inl ((h4 k).2 (.inr (.inr ⟨p, hpm, hk⟩)))
        · exact (C.wide fun k hk => (h4 k).2 (.inr (.inr ⟨_, hf, hk⟩))).grown (grown_set _ _ _) fun k hk => .inl ((h4 k).2 (.inl (by injection hk with hk; exact hk.symm)))
      | false =>
        rw [hb] at okA
        simp only [Bool.false_eq_true, if_false] at okA ⊢
        have hlen : M.length < 64 := by
          have := h3.len
          have : s.l.length ≠ 64 := fun c => hc (.inl ⟨hb, c⟩)
          omega
        have h16 : nm.data.toList.length ≤ 16 := by
          unfold isNm at hn
          simp only [Bool.and_eq_true, decide_eq_true_eq] at hn
          exact hn.1.2
        refine (app_new b bm M c G s.m nm hs h16 ad cp l hn w h1 hroom hlen h3.m0 m1 (by rw [← hh]; exact hb) hX fun hl0 k hk e => hdj hl0 k hk ((h4 k).2 (.inr (.inl e)))).mono ?_
        rintro e w' ⟨rfl, w8, f, G', rfl, hF, hM, hG, C⟩
        have hfw : w.heap.size ≤ f := hG f hF.self
        have plt : ∀ p ∈ M, p.2 < w.heap.size := fun p hp => (h1.fil p hp).lt _ (h1.fil p hp).self
        have pne : ∀ p ∈ M, p.2 ≠ f := fun p hp => by have := plt p hp; omega
        have hb0 : b < w.heap.size := World.block_lt_of_cell? w _ h1.c0
        have hbm : bm < w.heap.size := h1.map.lt
        have hD8 : DkD w8 b bm (M ++ [(nm.data.toList, f)]) (upd c f ⟨l, [(s.m, l.length)]⟩) (upd G f G') s.m := by
          refine ⟨C.cell h1.c0 h1.bb, C.cell h1.c1 h1.bb, fun i => (C.frozen (a := ⟨b, i, none⟩) hb0 h1.bb).trans (h1.fr i), hM, fun p hp => ?_, fun p hp q hq e => ?_, fun p hp q hq hne k e1 e2 => ?_, fun p hp k hk => ?_, h1.bb⟩
          · rcases List.mem_append.1 hp with hp | hp
            · rw [upd_other _ _ (pne p hp), upd_other _ _ (pne p hp)]
              exact (h1.fil p hp).kept C fun k hk e => (h1.base p hp k hk).2 e
            · simp at hp
              subst hp
              rw [upd_same, upd_same]
              exact hF
          · rcases List.mem_append.1 hp with hp | hp <;> rcases List.mem_append.1 hq with hq | hq
            · exact h1.inj p hp q hq e
            · simp at hq; subst hq; exact absurd e (pne p hp)
            · simp at hp; subst hp; exact absurd e.symm (pne q hq)
            · simp at hp hq; rw [hp, hq]
          · rcases List.mem_append.1 hp with hp | hp <;> rcases List.mem_append.1 hq with hq | hq
            · rw [upd_other _ _ (pne p hp)] at e1
              rw [upd_other _ _ (pne q hq)] at e2
              exact h1.apart p hp q hq hne k e1 e2
            · simp at hq; subst hq
              rw [upd_other _ _ (pne p hp)] at e1
              rw [upd_same] at e2
              have := (h1.fil p hp).lt k e1
              have := hG k e2
              omega
            · simp at hp; subst hp
              rw [upd_same] at e1
              rw [upd_other _ _ (pne q hq)] at e2
              have := (h1.fil q hq).lt k e2
              have := hG k e1
              omega
            · simp at hp hq; exact hne (by rw [hp, hq])
          · rcases List.mem_append.1 hp with hp | hp
            · rw [upd_other _ _ (pne p hp)] at hk
              exact h1.base p hp k hk
            · simp at hp; subst hp
              rw [upd_same] at hk
              have := hG k hk
              exact ⟨by omega, by omega⟩
        refine ⟨rfl, Foot b bm (M ++ [(nm.data.toList, f)]) (upd G f G'), ⟨bm, _, _, _, hD8.made (s.m + 1), ?_, okA, fun _ => Iff.rfl⟩, fun k hk => ?_, ?_⟩
        · show s.l ++ _ = _
          have e1 : lay M (upd c f ⟨l, [(s.m, l.length)]⟩) = lay M c := List.map_congr_left fun p hp => by rw [upd_other _ _ (pne p hp)]
          have e2 : lay (M ++ [(nm.data.toList, f)]) (upd c f ⟨l, [(s.m, l.length)]⟩) = lay M (upd c f ⟨l, [(s.m, l.length)]⟩) ++ [(nm.data.toList, upd c f ⟨l, [(s.m, l.length)]⟩ f)] := by unfold lay; rw [List.map_append]; rfl
          rw [e2, e1, upd_same, h2]
          rfl
        · rcases hk with e | e | ⟨p, hp, hk⟩
          · exact .inl ((h4 k).2 (.inl e))
          · exact .inl ((h4 k).2 (.inr (.inl e)))
          · rcases List.mem_append.1 hp with hp | hp
            · rw [upd_other _ _ (pne p hp)] at hk
              exact .inl ((h4 k).2 (.inr (.inr ⟨p, hp, hk⟩)))
            · simp at hp; subst hp
              rw [upd_same] at hk
              exact .inr (hG k hk)
        · exact (C.wide fun k hk => (h4 k).2 (.inr (.inl hk))).grown (grown_set _ _ _) fun k hk => .inl ((h4 k).2 (.inl (by injection hk with hk; exact hk.symm)))
end Go.Proofs.YtapdhkgeolcogaaGreatDoor
namespace Go.Proofs.YtapdhkgeolcogaaGreatDoor
open Go.RowKit Dsk
set_option linter.unusedVariables false

/-- The i-th element's place, and what lies there. -/
theorem Elm.Own.idx {α : Type} {E : Elm α} {w : World} {base : Nat} {v : Value} {l : List α} (h : E.Own w base v l) (hl : l.length ≤ 9223372036854775807) {i : Nat} {x : α} (hi : l[i]? = some x) :
    ∃ g q, (∀ W, (Instr.indexAt E.sl v (.int .i64 (i : Int))).run Tryz.prog W = .ok (.pointer (some ⟨g, q, none⟩)) W) ∧ (∀ j u, (E.enc x)[j]? = some u → w.cell? ⟨g, q + j, none⟩ = some u) ∧ (∀ j, w.frozen? ⟨g, j, none⟩ = false) ∧ v.ownBlock = some g := by
  obtain ⟨g, c, rfl, h1, h2⟩ := h.at_ hi
  have hlt := (List.getElem?_eq_some_iff.1 hi).1
  exact ⟨g, 0 + i * E.size, fun W => Elm.run_at hlt hl, fun j u hu => by have := h1 j u hu; rw [Nat.zero_add]; exact this, h2, rfl⟩
theorem Elm.Rx.idx {α : Type} {E : Elm α} {w : World} {v : Value} {l : List α} (h : E.Rx w v l) (hl : l.length ≤ 9223372036854775807) {i : Nat} {x : α} (hi : l[i]? = some x) :
    ∃ g q, (∀ W, (Instr.indexAt E.sl v (.int .i64 (i : Int))).run Tryz.prog W = .ok (.pointer (some ⟨g, q, none⟩)) W) ∧ (∀ j u, (E.enc x)[j]? = some u → w.cell? ⟨g, q + j, none⟩ = some u) ∧ v.ownBlock = some g := by
  obtain ⟨g, o, c, rfl, h1⟩ := h.at_ hi
  have hlt := (List.getElem?_eq_some_iff.1 hi).1
  exact ⟨g, o + i * E.size, fun W => Elm.run_at hlt hl, h1, rfl⟩
set_option maxRecDepth 100000 in
set_option maxHeartbeats 800000 in
theorem stays_any (p : Int × Nat) (nx torn : Int) (hp : p.2 ≤ 1048576) (w : World) :
    Calls Tryz.prog 65 #[.agg #[.int .i64 p.1, .int .i64 (p.2 : Int)], .int .i64 nx, .int .i64 torn] w fun e w' => e = .returned (.int .i64 (stays nx torn p : Int)) ∧ w.grownBy w' none := by
  unfold stays
  by_cases h1 : p.1 < nx
  · rw [if_pos h1]
    go_enter Tryz.func65, Tryz.ntmps65
    go_wp2
    go_ret
    exact ⟨rfl, World.grownBy_alloc w _ none⟩
  · rw [if_neg h1]
    by_cases h2 : nx < p.1
    · rw [if_pos h2]
      go_enter Tryz.func65, Tryz.ntmps65
      go_wp2
      go_ret
      exact ⟨rfl, World.grownBy_alloc w _ none⟩
    · rw [if_neg h2]
      have e : ((min torn.toNat p.2 : Nat) : Int) = min (max torn 0) (p.2 : Int) := by omega
      rw [e]
      clear e
      go_enter Tryz.func65, Tryz.ntmps65
      go_wp2
      all_goals
        go_ret
        exact ⟨ret_int (by omega), World.grownBy_alloc w _ none⟩
theorem lost_next {nx torn : Int} {ws : List (Int × Nat)} {k : Nat} {p : Int × Nat} (h : ws[k]? = some p) : lost nx torn (ws.take (k + 1)) = lost nx torn (ws.take k) + (p.2 - stays nx torn p) := by
  rw [List.take_add_one, h]
  exact lost_snoc _ _ _ _
/-- How a file that a crash has met lies in memory. -/
theorem FilD.cut {w w1 : World} {f : Nat} {vb vw vb' : Value} {fl : Fl} {k : Nat} (h : FilD w f vb vw fl) (g : w.grownBy w1 none) (O : eB.Own w1 0 vb' (fl.by_.take k)) (hb : vb'.ownBlock = vb.ownBlock) :
    FilD ((w1.setCell ⟨f, 0, none⟩ vb').setCell ⟨f, 1, none⟩ (.slice none 0 0)) f vb' (.slice none 0 0) ⟨fl.by_.take k, []⟩ := by
  have g1 := grown_set w1 ⟨f, 0, none⟩ vb'
  have g2 := grown_set (w1.setCell ⟨f, 0, none⟩ vb') ⟨f, 1, none⟩ (.slice none 0 0)
  have nb : ∀ j, vb'.ownBlock = some j → j ≠ f := fun j hj e => h.nb (by rw [← hb, hj, e])
  have flt : f < w.heap.size := World.block_lt_of_cell? w _ h.c0
  refine ⟨(set_other (by simp)).trans (set_same (g.cell h.c0 (by simp))), set_same ((set_other (by simp)).trans (g.cell h.c1 (by simp))), fun i => ?_, (O.but g1 fun j hj e => nb j hj (by injection e with e; exact e.symm)).but g2 fun j hj e => nb j hj (by injection e with e; exact e.symm), Elm.nil _ _, fun e => nb f e rfl, by simp [Value.ownBlock], by simp [Value.ownBlock]⟩
  rw [World.frozen?_setCell, World.frozen?_setCell, World.frozen?_of_block (w := w) (a := ⟨f, i, none⟩) (g.block f flt (by simp))]
  exact h.fr i
set_option maxRecDepth 100000 in
set_option maxHeartbeats 3200000 in
theorem crash_run (f : Nat) (vb vw : Value) (fl : Fl) (nx torn : Int) (w : World) (h : FilD w f vb vw fl) (hl : fl.by_.length ≤ 1048576) (hsz : sz fl ≤ fl.by_.length) (hws : fl.ws.length ≤ 1000000000) :
    Calls Tryz.prog 44 #[.pointer (some ⟨f, 0, none⟩), .int .i64 nx, .int .i64 torn] w fun e w' => e = .returned (.tuple #[]) ∧ ∃ vb', FilD w' f vb' (.slice none 0 0) (fl.crash nx torn) ∧ vb'.ownBlock = vb.ownBlock ∧ Chg (fun k => k = f) w w' := by
  obtain ⟨adb, cb, rfl⟩ := Elm.form h.rb
  obtain ⟨adw, cw, rfl⟩ := Elm.form h.rw
  have SY := stays_any
  have c1 := h.c1
  have hle := lost_le nx torn fl.ws
  unfold Dsk.sz at hsz
  have H : Hid (FilD w f (.slice adb fl.by_.length cb) (.slice adw fl.ws.length cw) fl) := h
  have each : ∀ (k : Nat) (p : Int × Nat), fl.ws[k]? = some p → p.2 ≤ 1048576 := fun k p hk => by
    have hm := List.mem_of_getElem? hk
    obtain ⟨A, B, e⟩ := List.append_of_mem hm
    rw [e] at hsz
    simp at hsz
    omega
  have HE : Hid (∀ (k : Nat) (p : Int × Nat), fl.ws[k]? = some p → p.2 ≤ 1048576) := each
  have tk : ∀ k, lost nx torn (fl.ws.take k) ≤ 1048576 := fun k => by have := lost_take nx torn fl.ws k; omega
  have HT : Hid (∀ k, lost nx torn (fl.ws.take k) ≤ 1048576) := tk
  have hll : lost nx torn fl.ws ≤ fl.by_.length := by omega
  have HL : Hid (lost nx torn fl.ws ≤ fl.by_.length) := hll
  clear hll
  clear each h hsz hle tk
  go_enter Tryz.func44, Tryz.ntmps44
  go_wp2
  go_loopw [6, 14] (fun lo i wr => ∃ k : Nat, k ≤ fl.ws.length ∧ i = Value.int .i64 (k : Int) ∧ lo = Value.int .i64 (lost nx torn (fl.ws.take k) : Int) ∧ w.grownBy wr none) (fun _ i _ => fl.ws.length - (intOf i).toNat)
  case atStart => exact ⟨0, Nat.zero_le _, rfl, by simp [lost], grown_refl _ _⟩
  case round =>
    obtain ⟨k, hk, rfl, rfl, hgw⟩ := hrel
    by_cases hlt : k < fl.ws.length
    · obtain ⟨p, hp⟩ : ∃ p, fl.ws[k]? = some p := ⟨_, List.getElem?_eq_getElem hlt⟩
      obtain ⟨g, q, hidx, hcell, hfr, hown⟩ := (H.out.rw.grown hgw).idx (by omega) hp
      have hidx' : ∀ W, (Instr.indexAt 89 (.slice adw fl.ws.length cw) (.int .i64 (k : Int))).run Tryz.prog W = .ok (.pointer (some ⟨g, q, none⟩)) W := hidx
      have y0 : wr.cell? ⟨g, q, none⟩ = some (.int .i64 p.1) := hcell 0 _ rfl
      have y1 : wr.cell? ⟨g, q + 1, none⟩ = some (.int .i64 (p.2 : Int)) := hcell 1 _ rfl
      have hp2 := HE.out k p hp
      have SYp := fun w => stays_any p nx torn hp2 w
      have HN : Hid (lost nx torn (fl.ws.take (k + 1)) = lost nx torn (fl.ws.take k) + (p.2 - stays nx torn p)) := lost_next hp
      have st := stays_le nx torn p
      have hb1 := HT.out k
      have hb2 := HT.out (k + 1)
      rw [HN.out] at hb2
      generalize hlo : lost nx torn (fl.ws.take k) = lo at HN hb1 hb2 ⊢
      generalize hst : stays nx torn p = sy at HN SYp st hb2
      clear hidx hcell hfr hp hown SY hlo hst
      obtain ⟨W1, hW1⟩ : ∃ W1, W1 = wr.alloc (Obj.cells #[.int .i64 p.1, .int .i64 (p.2 : Int)] 93) := ⟨_, rfl⟩
      have x0 : ∀ x : Gr W1, x.now.cell? ⟨wr.heap.size, 0, none⟩ = some (.int .i64 p.1) := fun x => x.grown.cell (by rw [hW1]; exact new_at wr rfl rfl) (by simp)
      have x1 : ∀ x : Gr W1, x.now.cell? ⟨wr.heap.size, 1, none⟩ = some (.int .i64 (p.2 : Int)) := fun x => x.grown.cell (by rw [hW1]; exact new_at wr rfl rfl) (by simp)
      have hne : Nonempty (Gr W1) := ⟨W1, grown_refl _ _⟩
      have HW1 : Hid (wr.grownBy W1 none) := by rw [hW1]; exact World.grownBy_alloc wr _ none
      go_upto_region 4 with fail
      rw [← hW1]
      clear hW1
      refine wp_region_quiet_at (C := fun w' => ∃ x : Gr W1, w' = x.now) (by kernel_rfl) (by kernel_rfl) ⟨⟨_, grown_drewN (grown_refl _ _) 1⟩, rfl⟩ ?_
      repeat (go_big_quiet_step ((go_at_call 65; with_reducible refine Gr.call (SYp _))))
      refine wpQuiet_nil ?_
      rintro _ ⟨x, rfl⟩
      go_wp2
      go_roundw
      case rel => exact ⟨k + 1, by omega, by go_num, by rw [HN.out]; go_num, grown_more hgw (grown_more HW1.out x.grown (by simp)) (by simp)⟩
      case measure => simp [intOf]; omega
    · have hkk : k = fl.ws.length := by omega
      have htk : fl.ws.take k = fl.ws := List.take_of_length_le (by omega)
      rw [htk]
      obtain ⟨q, hq⟩ : ∃ q, q = fl.by_.length - lost nx torn fl.ws := ⟨_, rfl⟩
      have hll := HL.out
      obtain ⟨ad', c', hsl, hO, hbk⟩ := Elm.upto (H.out.rb.grown hgw) (k := q) (by omega)
      have e1 : ((fl.by_.length : Int) - (lost nx torn fl.ws : Int)) = (q : Int) := by omega
      have hsl' : ∀ W, (Instr.slice 39 (.slice adb fl.by_.length cb) none (some (.int .i64 (q : Int))) none).run Tryz.prog W = .ok (.slice ad' q c') W := fun W => by
        rw [← run_sliceAt_slice W 39 _ _ _ _ (by kernel_rfl)]
        exact hsl W
      have hwr : IntKind.i64.wrap ((fl.by_.length : Int) - (lost nx torn fl.ws : Int)) = (q : Int) := by
        rw [e1]
        rw [IntKind.wrap_i64]; omega
      have z0 := hgw.cell H.out.c0 (by simp)
      have z1 := hgw.cell H.out.c1 (by simp)
      have flt : f < w.heap.size := World.block_lt_of_cell? w _ H.out.c0
      have zf : ∀ i, wr.frozen? ⟨f, i, none⟩ = false := fun i => by rw [World.frozen?_of_block (w := w) (a := ⟨f, i, none⟩) (hgw.block f flt (by simp))]; exact H.out.fr i
      have zf0 := zf 0
      have zf1 := zf 1
      have HQ : Hid (q = fl.by_.length - lost nx torn fl.ws) := hq
      have HO : Hid (eB.Own wr 0 (.slice ad' q c') (fl.by_.take q)) := hO
      have HB : Hid ((Value.slice ad' q c').ownBlock = (Value.slice adb fl.by_.length cb).ownBlock) := hbk
      have bq : (q : Int) ≤ 1048576 := by omega
      generalize hlo : lost nx torn fl.ws = lo at *
      have HLO : Hid (lost nx torn fl.ws = lo) := hlo
      have blo : (lo : Int) ≤ 1048576 := by omega
      have blo2 : (lo : Int) ≤ (fl.by_.length : Int) := by omega
      clear hq hO hbk hsl htk hkk e1 hlo SY zf
      go_upto_region 6 with fail
      refine region_tail 15 (by kernel_rfl) (by kernel_rfl) ?_
      simp only [List.take_succ_cons, List.take_zero, List.drop_succ_cons, List.drop_zero]
      iterate 15 still_step
      refine wpStill_nil ?_
      go_wp2
      go_end0
      have R := FilD.cut (w1 := wr.drew) H.out (grown_drew hgw) HO.out HB.out
      rw [HQ.out] at R
      have HB' := HB.out
      rw [HQ.out] at HB'
      have C1 : Chg (fun k => k = f) w wr.drew := Chg.of (grown_drew hgw) (by simp)
      have C2 := (C1.grown (grown_set wr.drew ⟨f, 0, none⟩ (.slice ad' (fl.by_.length - lo) c')) fun k hk => .inl (by injection hk with hk; exact hk.symm)).grown (grown_set _ ⟨f, 1, none⟩ (.slice none 0 0)) fun k hk => .inl (by injection hk with hk; exact hk.symm)
      have HC : Fl.crash nx torn fl = ⟨fl.by_.take (fl.by_.length - lo), []⟩ := by unfold Fl.crash; rw [HLO.out]
      rw [HC]
      have hq' := HQ.out
      subst hq'
      exact ⟨rfl, _, R, HB', C2⟩
end Go.Proofs.YtapdhkgeolcogaaGreatDoor
