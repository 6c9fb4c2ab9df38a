/- Both logs side by side: the program's and the reference's, and a box beside them. Both logs: laid anew, written beside, crashed, opened, read. Both logs: the beginning, what is read, what stays true of the state. -/
import Derived.Test.YtapdhkgeolcogaaGreatDoorGy
import Derived.Test.YtapdhkgeolcogaaGreatDoorGz
import Derived.Test.YtapdhkgeolcogaaGreatDoorHm
namespace Go.Proofs.YtapdhkgeolcogaaGreatDoor
open Go.RowKit Dsk Lg
set_option linter.unusedVariables false

section
variable {W w w' : World} {q rb : Nat} {t : St} {G : Nat → Prop} {c m last rc : Nat}
theorem Wr.wb (h : Wr W w q rb t G c m last rc) : ∀ k, Wb w rb G k → W.heap.size ≤ k ∧ k < w.heap.size := by
  intro k hk
  rcases hk with e | e | ⟨v, e1, e2⟩
  · exact ⟨h.lo k e, h.rs.lt k e⟩
  · rw [e]; exact ⟨h.wlo, h.lt⟩
  · obtain ⟨ad, cp, vs, k1, k2, k3⟩ := h.c3
    rw [k1] at e1
    injection e1 with e1
    subst e1
    exact k2.lt k e2
/-- Where the list's place has not turned. -/
theorem Wr.wb_same (h : Wr W w q rb t G c m last rc) {T : Nat → Prop} (g : Chg T w w') (hT : ¬ T rb) {v : Value} {j : Nat} (e1 : w'.cell? ⟨rb, 3, none⟩ = some v) (e2 : v.ownBlock = some j) : Wb w rb G j := by
  obtain ⟨ad, cp, vs, k1, k2, k3⟩ := h.c3
  rw [g.cell k1 hT] at e1
  injection e1 with e1
  subst e1
  exact .inr (.inr ⟨_, k1, e2⟩)
end
/-- Both logs. -/
structure Bo (W w : World) (b wb : Nat) (s : St) (F : Nat → Prop) (n num cnt q rb : Nat) (t : St) (G : Nat → Prop) (c m last rc : Nat) : Prop where
  wl : Wl W w b wb s F (nm n) (num : Int) (cnt : Int)
  wr : Wr W w q rb t G c m last rc
  ap : ∀ k, F k ∨ k = wb → ¬ Wb w rb G k
/-- A box of the caller's beside them. -/
structure Bxx (w : World) (P : Nat) (C : Array Value) (F : Nat → Prop) (wb rb : Nat) (G : Nat → Prop) : Prop where
  c : ∀ i u, C[i]? = some u → w.cell? ⟨P, i, none⟩ = some u
  p : ¬ (F P ∨ P = wb)
  r : ¬ Wb w rb G P
  lt : P < w.heap.size
def Bp (W w : World) (b wb : Nat) (s : St) (n num cnt q rb : Nat) (t : St) (c m last rc P : Nat) (C : Array Value) : Prop := ∃ F G, Bo W w b wb s F n num cnt q rb t G c m last rc ∧ Bxx w P C F wb rb G
section
variable {W w w' : World} {b wb : Nat} {s s' : St} {F F' G G' : Nat → Prop} {n num cnt n' num' cnt' q rb : Nat} {t t' : St} {c m last rc c' m' last' rc' P : Nat} {C : Array Value}
/-- Behind a call that turns the program's alone. -/
theorem Bo.prog (h : Bo W w b wb s F n num cnt q rb t G c m last rc) (hW : Wl W w' b wb s' F' (nm n') (num' : Int) (cnt' : Int)) (hF : ∀ k, F' k → F k ∨ w.heap.size ≤ k) (g : Chg (fun k => F k ∨ k = wb) w w') :
    Bo W w' b wb s' F' n' num' cnt' q rb t G c m last rc ∧ ∀ k, Wb w' rb G k → Wb w rb G k := by
  have nrb : ¬ (F rb ∨ rb = wb) := fun e => h.ap rb e (.inr (.inl rfl))
  have hb : ∀ k, Wb w' rb G k → Wb w rb G k := fun k hk => by
    rcases hk with e | e | ⟨v, e1, e2⟩
    · exact .inl e
    · exact .inr (.inl e)
    · exact h.wr.wb_same g nrb e1 e2
  refine ⟨⟨hW, h.wr.other g (fun k hk => ⟨fun e => h.ap k hk (.inl e), fun e => h.ap k hk (.inr (.inl e)), ?_⟩) fun v j e1 e2 e3 => h.ap j e3 (.inr (.inr ⟨v, e1, e2⟩)), fun k hk e => ?_⟩, hb⟩
  · rcases hk with e | e
    · exact h.wl.lo k e
    · rw [e]; exact h.wl.wlo
  · rcases hk with e1 | e1
    · rcases hF k e1 with e1 | e1
      · exact h.ap k (.inl e1) (hb k e)
      · have := (h.wr.wb k (hb k e)).2; omega
    · exact h.ap k (.inr e1) (hb k e)
/-- Behind a call that turns the reference's alone. -/
theorem Bo.ref (h : Bo W w b wb s F n num cnt q rb t G c m last rc) (hR : Wr W w' q rb t' G' c' m' last' rc') (hG : ∀ k, G' k → G k ∨ w.heap.size ≤ k) (g : Chg (Wb w rb G) w w') (hl : ∀ v j, w'.cell? ⟨rb, 3, none⟩ = some v → v.ownBlock = some j → Wb w rb G j ∨ w.heap.size ≤ j) :
    Bo W w' b wb s F n num cnt q rb t' G' c' m' last' rc' ∧ ∀ k, Wb w' rb G' k → Wb w rb G k ∨ w.heap.size ≤ k := by
  have hb : ∀ k, Wb w' rb G' k → Wb w rb G k ∨ w.heap.size ≤ k := fun k hk => by
    rcases hk with e | e | ⟨v, e1, e2⟩
    · exact (hG k e).imp .inl id
    · exact .inl (.inr (.inl e))
    · exact hl v k e1 e2
  refine ⟨⟨h.wl.apart g fun k hk => ⟨fun e => h.ap k (.inl e) hk, fun e => h.ap k (.inr e) hk, (h.wr.wb k hk).1⟩, hR, fun k hk e => ?_⟩, hb⟩
  rcases hb k e with e | e
  · exact h.ap k hk e
  · rcases hk with e1 | e1
    · have := h.wl.dk.lt k e1; omega
    · have := h.wl.lt; omega
theorem Bxx.prog (x : Bxx w P C F wb rb G) (hF : ∀ k, F' k → F k ∨ w.heap.size ≤ k) (g : Chg (fun k => F k ∨ k = wb) w w') (hb : ∀ k, Wb w' rb G k → Wb w rb G k) : Bxx w' P C F' wb rb G :=
  ⟨fun i u hu => g.cell (x.c i u hu) x.p, fun e => by
    rcases e with e | e
    · rcases hF P e with e | e
      · exact x.p (.inl e)
      · have := x.lt; omega
    · exact x.p (.inr e), fun e => x.r (hb P e), Nat.lt_of_lt_of_le x.lt g.size⟩
theorem Bxx.ref (x : Bxx w P C F wb rb G) (g : Chg (Wb w rb G) w w') (hb : ∀ k, Wb w' rb G' k → Wb w rb G k ∨ w.heap.size ≤ k) : Bxx w' P C F wb rb G' :=
  ⟨fun i u hu => g.cell (x.c i u hu) x.r, x.p, fun e => by
    rcases hb P e with e | e
    · exact x.r e
    · have := x.lt; omega, Nat.lt_of_lt_of_le x.lt g.size⟩
theorem Bp.cell (h : Bp W w b wb s n num cnt q rb t c m last rc P C) {i : Nat} {u : Value} (hu : C[i]? = some u) : w.cell? ⟨P, i, none⟩ = some u := by
  obtain ⟨F, G, _, x⟩ := h
  exact x.c i u hu
theorem Bp.bel (h : Bp W w b wb s n num cnt q rb t c m last rc P C) : Below W.heap.size W w := by
  obtain ⟨F, G, h1, _⟩ := h
  exact h1.wl.bel
theorem Bo.grown (h : Bo W w b wb s F n num cnt q rb t G c m last rc) (g : w.grownBy w' none) : Bo W w' b wb s F n num cnt q rb t G c m last rc ∧ ∀ k, Wb w' rb G k → Wb w rb G k :=
  h.prog (h.wl.grown g) (fun _ hk => .inl hk) (Chg.of g (by simp))
theorem Bp.grown (h : Bp W w b wb s n num cnt q rb t c m last rc P C) (g : w.grownBy w' none) : Bp W w' b wb s n num cnt q rb t c m last rc P C := by
  obtain ⟨F, G, h1, x⟩ := h
  obtain ⟨h2, hb⟩ := h1.grown g
  exact ⟨F, G, h2, x.prog (fun _ hk => .inl hk) (Chg.of g (by simp)) hb⟩
/-- A box is made. -/
theorem Bo.box (h : Bo W w b wb s F n num cnt q rb t G c m last rc) (C : Array Value) (ty : TypeId) : Bp W (w.alloc (.cells C ty)) b wb s n num cnt q rb t c m last rc w.heap.size C := by
  obtain ⟨h2, hb⟩ := h.grown (World.grownBy_alloc w (.cells C ty) none)
  refine ⟨F, G, h2, fun i u hu => new_at w rfl hu, fun e => ?_, fun e => ?_, by simp⟩
  · rcases e with e | e
    · have := h.wl.dk.lt _ e; omega
    · have := h.wl.lt; omega
  · have := (h.wr.wb _ (hb _ e)).2; omega
/-- A call of the program's log, lifted. -/
theorem Bp.prog {f : FuncId} {args : Array Value} {E : Ending} (h : Bp W w b wb s n num cnt q rb t c m last rc P C)
    (k : ∀ F, Wl W w b wb s F (nm n) (num : Int) (cnt : Int) → Calls Tryz.prog f args w fun e w' => e = E ∧ WLeft W w w' b wb F s' (nm n') (num' : Int) (cnt' : Int)) :
    Calls Tryz.prog f args w fun e w' => e = E ∧ Bp W w' b wb s' n' num' cnt' q rb t c m last rc P C := by
  obtain ⟨F, G, h1, x⟩ := h
  refine (k F h1.wl).mono ?_
  rintro e w' ⟨rfl, F', h2, h3, h4⟩
  obtain ⟨h5, hb⟩ := h1.prog h2 h3 h4
  exact ⟨rfl, F', G, h5, x.prog h3 h4 hb⟩
/-- A call of the reference's log, lifted. -/
theorem Bp.ref {f : FuncId} {args : Array Value} {E : Ending} (h : Bp W w b wb s n num cnt q rb t c m last rc P C)
    (k : ∀ G, Wr W w q rb t G c m last rc → Calls Tryz.prog f args w fun e w' => e = E ∧ ∃ G', Wr W w' q rb t' G' c' m' last' rc' ∧ (∀ k, G' k → G k ∨ w.heap.size ≤ k) ∧ Chg (Wb w rb G) w w' ∧ ∀ v j, w'.cell? ⟨rb, 3, none⟩ = some v → v.ownBlock = some j → Wb w rb G j ∨ w.heap.size ≤ j) :
    Calls Tryz.prog f args w fun e w' => e = E ∧ Bp W w' b wb s n num cnt q rb t' c' m' last' rc' P C := by
  obtain ⟨F, G, h1, x⟩ := h
  refine (k G h1.wr).mono ?_
  rintro e w' ⟨rfl, G', h2, h3, h4, h5⟩
  obtain ⟨h6, hb⟩ := h1.ref h2 h3 h4 h5
  exact ⟨rfl, F, G', h6, x.ref h4 hb⟩
end
section
variable {W w w' : World} {b wb : Nat} {s : St} {n num cnt q rb : Nat} {t : St} {c m last rc P : Nat} {C : Array Value}
/-- Records that came in lie below W. -/
theorem rx_now {W w : World} {v : Value} {l : By} (hX : eB.Rx W v l) (bel : Below W.heap.size W w) : eB.Rx w v l := hX.below bel
theorem bp_append (h : Bp W w b wb s n num cnt q rb t c m last rc P C) (hn : n ≤ 999999999) (hcn : cnt ≤ 100000000) (hm : s.m ≤ 900000000) (v : Value) (l : By) (hX : eB.Rx W v l) (hl : l.length ≤ rch) :
    Calls Tryz.prog 12 #[.pointer (some ⟨wb, 0, none⟩), v] w fun e w' => e = .returned (.int .i64 (putE s (nm n) l)) ∧ Bp W w' b wb (putS s (nm n) l) n num (if putE s (nm n) l = 0 then cnt + 1 else cnt) q rb t c m last rc P C :=
  h.prog fun F hW => by
    have hnl := nm_len (n := n) (by omega)
    exact wappend_any hW (by omega) v l (hX.below hW.bel) (by unfold rch at hl; omega) (by omega) (by omega)
theorem bp_rappend (h : Bp W w b wb s n num cnt q rb t c m last rc P C) (h1 : 1 ≤ m) (h2 : m ≤ 999999999) (hcn : rc ≤ 100000000) (hc : c ≤ 999999999) (a : Option Addr) (cp : Nat) (l : By) (hX : eB.Rx W (.slice a l.length cp) l) :
    Calls Tryz.prog 13 #[.pointer (some ⟨rb, 0, none⟩), .slice a l.length cp] w fun e w' => e = .returned (.int .i64 (putE t (nm m) l)) ∧ ∃ c', c' ≤ c + 1 ∧ Bp W w' b wb s n num cnt q rb (putS t (nm m) l) c' m last (if putE t (nm m) l = 0 then rc + 1 else rc) P C := by
  by_cases hl : 65536 < l.length
  · have e1 : putE t (nm m) l = 1 := by unfold putE; rw [if_pos hl]
    have e2 : putS t (nm m) l = t := by unfold putS; rw [if_pos hl]
    rw [e1, e2, if_neg (by decide)]
    obtain ⟨F, G, k1, x⟩ := h
    exact (rapp10_long k1.wr a _ cp hl).mono fun e w' ⟨g1, g2⟩ => ⟨g1, c, by omega, by rw [g2]; exact ⟨F, G, k1, x⟩⟩
  · by_cases hE : appE t.l (nm m) (fr l).length = 0
    · have e1 : putE t (nm m) l = 0 := by unfold putE; rw [if_neg hl, if_pos hE]
      have e2 : putS t (nm m) l = appS t (nm m) (fr l) := by unfold putS; rw [if_neg hl]
      rw [e1, e2, if_pos rfl]
      refine (h.ref (E := .returned (.int .i64 0)) (c' := c + 1) (m' := m) (last' := last) (rc' := rc + 1) (t' := appS t (nm m) (fr l)) fun G hW => ?_).mono fun e w' ⟨g1, g2⟩ => ⟨g1, c + 1, by omega, g2⟩
      refine (rapp10_ok hW hc h1 h2 hcn a cp l (hX.below hW.bel) (fun h0 j hj => hX.lt h0 j hj) (by omega) hE).mono ?_
      rintro e w' ⟨rfl, G', g1, g2, g3, v', g4, g5⟩
      exact ⟨rfl, G', g1, g2, g3, fun v j e1 e2 => by rw [g4] at e1; injection e1 with e1; subst e1; exact g5 j e2⟩
    · have e1 : putE t (nm m) l = 3 := by unfold putE; rw [if_neg hl, if_neg hE]
      have e2 : putS t (nm m) l = t := by unfold putS; rw [if_neg hl]; unfold appS; rw [if_neg hE]
      rw [e1, e2, if_neg (by decide)]
      refine (h.ref (E := .returned (.int .i64 3)) (c' := c + 1) (m' := m) (last' := last) (rc' := rc) (t' := t) fun G hW => ?_).mono fun e w' ⟨g1, g2⟩ => ⟨g1, c + 1, by omega, g2⟩
      refine (rapp10_full hW hc h1 h2 a cp l (hX.below hW.bel) (by omega) hE).mono ?_
      rintro e w' ⟨rfl, G', g1, g2, g3⟩
      exact ⟨rfl, G', g1, g2, g3.wide fun k hk => .inl hk, fun v j e1 e2 => .inl (hW.wb_same g3 hW.nf e1 e2)⟩
theorem bp_sync (h : Bp W w b wb s n num cnt q rb t c m last rc P C) (hn : n ≤ 999999999) (hh : has s.l (nm n) = true) :
    Calls Tryz.prog 14 #[.pointer (some ⟨wb, 0, none⟩)] w fun e w' => e = .returned (.int .i64 0) ∧ Bp W w' b wb (syncS s (nm n)) n num cnt q rb t c m last rc P C :=
  h.prog fun F hW => by
    have hnl := nm_len (n := n) (by omega)
    have := wsyn_any hW (by omega)
    rw [show hasE s.l (nm n) = 0 by unfold hasE; rw [if_pos hh], if_pos rfl] at this
    exact this.mono fun e w' ⟨g1, g2⟩ => ⟨g1, g2.left⟩
theorem bp_rsync (h : Bp W w b wb s n num cnt q rb t c m last rc P C) (h1 : 1 ≤ m) (h2 : m ≤ 999999999) (hc : c ≤ 999999999) (hh : has t.l (nm m) = true) :
    Calls Tryz.prog 15 #[.pointer (some ⟨rb, 0, none⟩)] w fun e w' => e = .returned (.int .i64 0) ∧ Bp W w' b wb s n num cnt q rb (syncS t (nm m)) c m last rc P C :=
  h.ref fun G hW => by
    have := rsync10 hW (by omega) h1 h2
    rw [show hasE t.l (nm m) = 0 by unfold hasE; rw [if_pos hh]] at this
    exact this.mono fun e w' ⟨g1, G', g2, g3, g4⟩ => ⟨g1, G', g2, g3, g4.wide fun k hk => .inl hk, fun v j e1 e2 => .inl (hW.wb_same g4 hW.nf e1 e2)⟩
end
end Go.Proofs.YtapdhkgeolcogaaGreatDoor
namespace Go.Proofs.YtapdhkgeolcogaaGreatDoor
open Go.RowKit Dsk Lg
set_option linter.unusedVariables false

section
variable {W w w' : World} {b wb : Nat} {s : St} {n num cnt q rb : Nat} {t : St} {c m last rc P : Nat} {C : Array Value}
/-- A log laid anew, the program's: refused, full, or laid. -/
theorem bp_reset_long (h : Bp W w b wb s n num cnt q rb t c m last rc P C) (v : Value) (ls : List By) (hX : Rl W v ls (fun k => k < W.heap.size)) (hl : ls.length ≤ 100) (hL : long ls = true) :
    Calls Tryz.prog 16 #[.pointer (some ⟨wb, 0, none⟩), v] w fun e w' => e = .returned (.int .i64 1) ∧ Bp W w' b wb s n num cnt q rb t c m last rc P C := by
  obtain ⟨F, G, k1, x⟩ := h
  exact (reset_long k1.wl v ls (hX.below k1.wl.bel) (by omega) hL).mono fun e w' ⟨g1, g2⟩ => ⟨g1, by rw [g2]; exact ⟨F, G, k1, x⟩⟩
theorem bp_reset_full (h : Bp W w b wb s n num cnt q rb t c m last rc P C) (v : Value) (ls : List By) (hX : Rl W v ls (fun k => k < W.heap.size)) (hl : ls.length ≤ 100) (hL : long ls = false) (hm : s.m ≤ 900000000) (hn : num ≤ 999999999) (hF : num = 999999999 ∨ (layS s (nm (num + 1)) ls).2 = false) :
    Calls Tryz.prog 16 #[.pointer (some ⟨wb, 0, none⟩), v] w fun e w' => e = .returned (.int .i64 3) ∧ ∃ s', Bp W w' b wb s' n num cnt q rb t c m last rc P C := by
  by_cases e : num = 999999999
  · subst e
    obtain ⟨F, G, k1, x⟩ := h
    exact (reset_full k1.wl v ls (hX.below k1.wl.bel) (by omega) hL).mono fun e w' ⟨g1, g2⟩ => ⟨g1, s, by rw [g2]; exact ⟨F, G, k1, x⟩⟩
  · refine (h.prog (E := .returned (.int .i64 3)) (s' := remS (layS s (nm (num + 1)) ls).1 (nm (num + 1))) (n' := n) (num' := num) (cnt' := cnt) fun F hW => ?_).mono fun e w' ⟨g1, g2⟩ => ⟨g1, _, g2⟩
    refine (reset_bad hW v ls (hX.below hW.bel) (fun k hk => ⟨fun e => by have := hW.lo k e; omega, Nat.lt_of_lt_of_le hk hW.bel.size⟩) (by omega) hm hL (by omega) (hF.resolve_left e)).mono fun e w' ⟨g1, g2⟩ => ⟨g1, g2.left⟩
theorem bp_reset_ok (h : Bp W w b wb s n num cnt q rb t c m last rc P C) (v : Value) (ls : List By) (hX : Rl W v ls (fun k => k < W.heap.size)) (hl : ls.length ≤ 100) (hL : long ls = false) (hm : s.m ≤ 900000000) (hn : n ≤ 999999999) (hnn : num < 999999999) (hS : (layS s (nm (num + 1)) ls).2 = true) :
    Calls Tryz.prog 16 #[.pointer (some ⟨wb, 0, none⟩), v] w fun e w' => e = .returned (.int .i64 0) ∧ Bp W w' b wb (remS (layS s (nm (num + 1)) ls).1 (nm n)) (num + 1) (num + 1) ls.length q rb t c m last rc P C :=
  h.prog fun F hW => by
    have hnl := nm_len (n := n) (by omega)
    exact reset_ok hW (by omega) v ls (hX.below hW.bel) (fun k hk => ⟨fun e => by have := hW.lo k e; omega, Nat.lt_of_lt_of_le hk hW.bel.size⟩) (by omega) hm hL hnn hS
/-- A log laid anew, the reference's. -/
theorem bp_rlay_long (h : Bp W w b wb s n num cnt q rb t c m last rc P C) (v : Value) (ls : List By) (hX : Rl W v ls (fun k => k < W.heap.size)) (hl : ls.length ≤ 100) (hL : long ls = true) :
    Calls Tryz.prog 17 #[.pointer (some ⟨rb, 0, none⟩), v] w fun e w' => e = .returned (.int .i64 1) ∧ Bp W w' b wb s n num cnt q rb t c m last rc P C := by
  obtain ⟨F, G, k1, x⟩ := id h
  exact (rlay_long k1.wr v ls (hX.below k1.wl.bel) (by omega) hL).mono fun e w' ⟨g1, g2⟩ => ⟨g1, h.grown g2⟩
theorem bp_rlay_full (h : Bp W w b wb s n num cnt q rb t c m last rc P C) (v : Value) (ls : List By) (hX : Rl W v ls (fun k => k < W.heap.size)) (hl : ls.length ≤ 100) (hL : long ls = false) (hc : c + 200 ≤ 999999999) (hla : last ≤ 999999999) (hm1 : m ≤ 999999999) (hF : last = 999999999 ∨ (layS t (nm (last + 1)) ls).2 = false) :
    Calls Tryz.prog 17 #[.pointer (some ⟨rb, 0, none⟩), v] w fun e w' => e = .returned (.int .i64 3) ∧ Below W.heap.size W w' := by
  obtain ⟨F, G, k1, x⟩ := h
  refine (rlay_fit k1.wr v ls (hX.below k1.wl.bel) (fun k hk e => ?_) (by omega) hL (by omega) hla hm1 rfl).mono ?_
  · rcases e with e | e
    · have := k1.wr.lo k e; omega
    · have := k1.wr.wlo; omega
  · rintro e w' (⟨rfl, g1, _⟩ | ⟨rfl, g1, g2, _⟩)
    · exact ⟨rfl, g1⟩
    · rcases hF with hF | hF
      · exact absurd hF g1
      · rw [hF] at g2; cases g2
theorem bp_rlay_ok (h : Bp W w b wb s n num cnt q rb t c m last rc P C) (v : Value) (ls : List By) (hX : Rl W v ls (fun k => k < W.heap.size)) (hl : ls.length ≤ 100) (hL : long ls = false) (hc : c + 200 ≤ 999999999) (hla : last < 999999999) (hm0 : 1 ≤ m) (hm1 : m ≤ 999999999) (hS : (layS t (nm (last + 1)) ls).2 = true) :
    Calls Tryz.prog 17 #[.pointer (some ⟨rb, 0, none⟩), v] w fun e w' => e = .returned (.int .i64 0) ∧ Bp W w' b wb s n num cnt q rb (remS (layS t (nm (last + 1)) ls).1 (nm m)) (c + ls.length + 1) (last + 1) (last + 1) ls.length P C :=
  h.ref fun G hW => by
    refine (rlay_fit hW v ls (hX.below hW.bel) (fun k hk e => ?_) (by omega) hL (by omega) (by omega) hm1 (if_neg (by omega)).symm).mono ?_
    · rcases e with e | e
      · have := hW.lo k e; omega
      · have := hW.wlo; omega
    · rintro e w' (⟨rfl, _, g1⟩ | ⟨rfl, g1, g2, G', g3, g4, g5, v', g6, g7, g8⟩)
      · rcases g1 with g1 | g1
        · omega
        · rw [hS] at g1; cases g1
      · exact ⟨rfl, G', g3, g4, g5.wide fun k hk => hk.imp id .inl, fun u j e1 e2 => .inr (by rw [g6] at e1; injection e1 with e1; subst e1; exact g8 j e2)⟩
/-- Bytes written to a file beside the logs. -/
theorem bp_write (h : Bp W w b wb s n num cnt q rb t c m last rc P C) (hm : s.m ≤ 900000000) (x : ByteArray) (hx : x.size ≤ rch) (v : Value) (l : By) (hX : eB.Rx W v l) (hl : l.length ≤ rch) :
    Calls Tryz.prog 21 #[.pointer (some ⟨b, 0, none⟩), .string x, v] w fun e w' => e = .returned (.int .i64 (appE s.l x.data.toList l.length)) ∧ Bp W w' b wb (appS s x.data.toList l) n num cnt q rb t c m last rc P C :=
  h.prog fun F hW => by
    unfold rch at hx hl
    refine (append_any b s F x hx v l w hW.dk (by omega) (hX.below hW.bel) hl fun h0 k hk e => by have := hX.lt h0 k hk; have := hW.lo k e; omega).mono ?_
    rintro e w' ⟨g1, F', g2, g3, g4⟩
    exact ⟨g1, F', hW.disk g2 g3 g4, g3, g4.wide fun k hk => .inl hk⟩
theorem str_back (x : ByteArray) : (⟨x.data.toList.toArray⟩ : ByteArray) = x := by cases x; simp
theorem bp_rwrite (h : Bp W w b wb s n num cnt q rb t c m last rc P C) (hc : c ≤ 999999999) (x : ByteArray) (hx : x.size ≤ rch) (v : Value) (l : By) (hX : eB.Rx W v l) (hl : l.length ≤ rch) :
    Calls Tryz.prog 22 #[.pointer (some ⟨q, 0, none⟩), .string x, v] w fun e w' => e = .returned (.int .i64 (appE t.l x.data.toList l.length)) ∧ Bp W w' b wb s n num cnt q rb (appS t x.data.toList l) (c + 1) m last rc P C :=
  h.ref fun G hW => by
    unfold rch at hx hl
    have hxl : x.data.toList.length ≤ 140737488351232 := by have : x.size = x.data.toList.length := by cases x; simp [ByteArray.size]
                                                            omega
    have := rs_app hW.rs hc x.data.toList l v hxl hl (hX.below hW.bel) fun h0 k hk e => by have := hX.lt h0 k hk; have := hW.lo k e; omega
    rw [str_back] at this
    refine this.mono ?_
    rintro e w' ⟨g1, G', g2, g3, g4⟩
    exact ⟨g1, G', hW.disk g2 g3 g4, g3, g4.wide fun k hk => .inl hk, fun v j e1 e2 => .inl (hW.wb_same g4 hW.nf e1 e2)⟩
/-- A crash. -/
theorem bp_crash (h : Bp W w b wb s n num cnt q rb t c m last rc P C) (hm : s.m ≤ 900000000) (keep torn : Int) (hk : keep ≤ 9223372036854775807) :
    Calls Tryz.prog 18 #[.pointer (some ⟨b, 0, none⟩), .int .i64 keep, .int .i64 torn] w fun e w' => e = .returned (.tuple #[]) ∧ Bp W w' b wb (crashS s keep torn) n num cnt q rb t c m last rc P C :=
  h.prog fun F hW => (wcrash_any hW keep torn hk (by omega)).mono fun e w' ⟨g1, g2⟩ => ⟨g1, g2.left⟩
theorem bp_rcrash (h : Bp W w b wb s n num cnt q rb t c m last rc P C) (hc : c ≤ 999999999) (keep torn : Int) :
    Calls Tryz.prog 19 #[.pointer (some ⟨q, 0, none⟩), .int .i64 keep, .int .i64 torn] w fun e w' => e = .returned (.tuple #[]) ∧ Bp W w' b wb s n num cnt q rb (crashS t keep torn) c m last rc P C :=
  h.ref fun G hW => by
    refine (rs_crash hW.rs (by omega) keep torn).mono ?_
    rintro e w' ⟨g1, G', g2, g3, g4⟩
    exact ⟨g1, G', hW.disk g2 g3 g4, g3, g4.wide fun k hk => .inl hk, fun v j e1 e2 => .inl (hW.wb_same g4 hW.nf e1 e2)⟩
/-- Both logs, and the list that opening answered. -/
def Bl (W w : World) (b wb : Nat) (s : St) (n num cnt q rb : Nat) (t : St) (c m last rc P : Nat) (C : Array Value) (v : Value) (ls : List By) : Prop :=
  ∃ F G, Bo W w b wb s F n num cnt q rb t G c m last rc ∧ Bxx w P C F wb rb G ∧ Rl w v ls (fun k => ¬ Wb w rb G k)
/-- The program's log opened. -/
theorem bp_open (h : Bp W w b wb s n num cnt q rb t c m last rc P C) (hm : s.m ≤ 900000000) {s' : St} {n' k : Nat} {ls : List By} (ho : openR s = some (s', nm k, n', ls)) :
    Calls Tryz.prog 10 #[.pointer (some ⟨b, 0, none⟩)] w fun e w' => ∃ ad cp wb', e = .returned (.tuple #[.pointer (some ⟨wb', 0, none⟩), .slice ad ls.length cp, .int .i64 0]) ∧ Bl W w' b wb' s' k n' ls.length q rb t c m last rc P C (.slice ad ls.length cp) ls := by
  obtain ⟨F, G, k1, x⟩ := h
  refine (open_some2 k1.wl.dk k1.wl.lo k1.wl.bel k1.wl.gv hm ho).mono ?_
  rintro e w' ⟨ad, cp, F', rfl, g1, g2, g3, g4, g5⟩
  have g3' : Chg (fun k => F k ∨ k = wb) w w' := g3.wide fun k hk => .inl hk
  have nrb : ¬ F rb := fun e => k1.ap rb (.inl e) (.inr (.inl rfl))
  have hb : ∀ k, Wb w' rb G k → Wb w rb G k := fun k hk => by
    rcases hk with e | e | ⟨v, e1, e2⟩
    · exact .inl e
    · exact .inr (.inl e)
    · exact k1.wr.wb_same g3 nrb e1 e2
  have nb : ∀ k, w.heap.size ≤ k → ¬ Wb w' rb G k := fun k hk e => by have := (k1.wr.wb k (hb k e)).2; omega
  refine ⟨ad, cp, w.heap.size, rfl, F', G, ⟨g1, k1.wr.other g3 (fun k hk => ⟨fun e => k1.ap k (.inl hk) (.inl e), fun e => k1.ap k (.inl hk) (.inr (.inl e)), k1.wl.lo k hk⟩) fun v j e1 e2 e3 => k1.ap j (.inl e3) (.inr (.inr ⟨v, e1, e2⟩)), fun k hk e => ?_⟩, ⟨fun i u hu => g3.cell (x.c i u hu) fun e => x.p (.inl e), fun e => ?_, fun e => x.r (hb P e), Nat.lt_of_lt_of_le x.lt g3.size⟩, g5.rl (fun k hk => nb k (by omega)) fun k a _ => nb k (by omega)⟩
  · rcases hk with e1 | e1
    · rcases g2 k e1 with e1 | e1
      · exact k1.ap k (.inl e1) (hb k e)
      · exact nb k e1 e
    · exact nb k (by omega) e
  · rcases e with e | e
    · rcases g2 P e with e | e
      · exact x.p (.inl e)
      · have := x.lt; omega
    · have := x.lt; omega
/-- The reference's log opened beside it. -/
theorem bl_ropen {v : Value} {ls : List By} (h : Bl W w b wb s n num cnt q rb t c m last rc P C v ls) (hc : c + 1048577 ≤ 999999999) {s' : St} {n' k : Nat} {ls' : List By} (ho : openR t = some (s', nm k, n', ls')) :
    Calls Tryz.prog 11 #[.pointer (some ⟨q, 0, none⟩)] w fun e w' => ∃ rb' c', e = .returned (.tuple #[.pointer (some ⟨rb', 0, none⟩), .int .i64 0]) ∧ c' ≤ c + ls'.length + 1 ∧ Bp W w' b wb s n num cnt q rb' s' c' k n' ls'.length P C ∧ Rl w' v ls (fun _ => True) ∧ ∃ u, w'.cell? ⟨rb', 3, none⟩ = some u ∧ Rl w' u ls' (fun _ => True) := by
  obtain ⟨F, G, k1, x, hR⟩ := h
  refine (ropen10 k1.wr.rs k1.wr.lo k1.wr.bel hc).mono ?_
  rintro e w' (⟨g1, _⟩ | ⟨s2, n2, last2, ls2, rb', G', c', g1, rfl, g3, g4, g5, g6, g7, g8, g9, u, R, g10, g11, g12, g13⟩)
  · rw [ho] at g1; cases g1
  · rw [ho] at g1
    simp only [Option.some.injEq, Prod.mk.injEq] at g1
    obtain ⟨rfl, e2, rfl, rfl⟩ := g1
    have e2 := nm_inj e2
    subst e2
    have hb : ∀ k, Wb w' rb' G' k → G k ∨ w.heap.size ≤ k := fun k hk => by
      rcases hk with e | e | ⟨v, e1, e2⟩
      · exact g6 k e
      · exact .inr (by omega)
      · rw [g10] at e1
        injection e1 with e1
        subst e1
        exact .inr (g13 k e2)
    refine ⟨rb', c', rfl, g4, ⟨F, G', ⟨k1.wl.apart g7 fun k hk => ⟨fun e => k1.ap k (.inl e) (.inl hk), fun e => k1.ap k (.inr e) (.inl hk), k1.wr.lo k hk⟩, g3, fun k hk e => ?_⟩, ⟨fun i u hu => g7.cell (x.c i u hu) fun e => x.r (.inl e), x.p, fun e => ?_, Nat.lt_of_lt_of_le x.lt g7.size⟩⟩, (hR.kept g7 fun k hk e => hk (.inl e)).wide fun _ _ => trivial, u, g10, g11.wide fun _ _ => trivial⟩
    · rcases hb k e with e | e
      · exact k1.ap k hk (.inl e)
      · rcases hk with e1 | e1
        · have := k1.wl.dk.lt k e1; omega
        · have := k1.wl.lt; omega
    · rcases hb P e with e | e
      · exact x.r (.inl e)
      · have := x.lt; omega
/-- The disks alone: what is left where the program's opening failed. -/
def Bd (W w : World) (q : Nat) (t : St) (c : Nat) : Prop := ∃ G, RS w q t G c ∧ (∀ k, G k → W.heap.size ≤ k) ∧ Below W.heap.size W w
theorem bp_open_none (h : Bp W w b wb s n num cnt q rb t c m last rc P C) (hm : s.m ≤ 900000000) (ho : openR s = none) :
    Calls Tryz.prog 10 #[.pointer (some ⟨b, 0, none⟩)] w fun e w' => e = .returned (.tuple #[.pointer none, .slice none 0 0, .int .i64 3]) ∧ Bd W w' q t c := by
  obtain ⟨F, G, k1, x⟩ := h
  refine (open_none2 k1.wl.dk k1.wl.lo k1.wl.bel k1.wl.gv hm ho).mono ?_
  rintro e w' ⟨g1, g2, g3⟩
  exact ⟨g1, G, k1.wr.rs.kept g2 fun k hk e => k1.ap k (.inl e) (.inl hk), k1.wr.lo, g3⟩
theorem bd_ropen (h : Bd W w q t c) (hc : c + 1048577 ≤ 999999999) (ho : openR t = none) :
    Calls Tryz.prog 11 #[.pointer (some ⟨q, 0, none⟩)] w fun e w' => e = .returned (.tuple #[.pointer none, .int .i64 3]) ∧ Below W.heap.size W w' := by
  obtain ⟨G, k1, k2, k3⟩ := h
  refine (ropen10 k1 k2 k3 hc).mono ?_
  rintro e w' (⟨_, g2, g3⟩ | ⟨s2, n2, last2, ls2, rb', G', c', g1, _⟩)
  · exact ⟨g2, g3⟩
  · rw [ho] at g1; cases g1
end
end Go.Proofs.YtapdhkgeolcogaaGreatDoor
namespace Go.Proofs.YtapdhkgeolcogaaGreatDoor
open Go.RowKit Dsk Lg
set_option linter.unusedVariables false

section
variable {W w w' : World} {b wb : Nat} {s : St} {n num cnt q rb : Nat} {t : St} {c m last rc P : Nat} {C : Array Value} {F G : Nat → Prop}
/-- The reference's disk, new. -/
theorem rs_new (w2 : World) : RS (w2.alloc (.cells #[.slice none 0 0, .slice none 0 0] 30)) w2.heap.size newS (fun k => k = w2.heap.size) 0 := by
  have c0 : (w2.alloc (.cells #[.slice none 0 0, .slice none 0 0] 30)).cell? ⟨w2.heap.size, 0, none⟩ = some (.slice none 0 0) := new_at w2 rfl rfl
  have c1 : (w2.alloc (.cells #[.slice none 0 0, .slice none 0 0] 30)).cell? ⟨w2.heap.size, 1, none⟩ = some (.slice none 0 0) := new_at w2 rfl rfl
  refine ⟨ok_new, [], [], [], ⟨.slice none 0 0, .slice none 0 0, ⟨c0, c1, fun i => ?_, Elm.nil _ _, Elm.nil _ _, by simp [Value.ownBlock], by simp [Value.ownBlock], by simp [Value.ownBlock]⟩, rfl, by simp [Value.ownBlock], by simp [Value.ownBlock], fun k hk => by rw [hk]; simp⟩, rel_new, by simp⟩
  have hh : (w2.alloc (.cells #[.slice none 0 0, .slice none 0 0] 30)).heap[w2.heap.size]? = some (.cells #[.slice none 0 0, .slice none 0 0] 30) := by show (w2.heap.push _)[w2.heap.size]? = some _; simp
  unfold World.frozen?
  simp only
  rw [hh]
  simp
/-- The program's log open, the reference's disk beside it. -/
structure Bs (W w : World) (b wb : Nat) (s : St) (F : Nat → Prop) (n num cnt q : Nat) (t : St) (G : Nat → Prop) (c : Nat) : Prop where
  wl : Wl W w b wb s F (nm n) (num : Int) (cnt : Int)
  rs : RS w q t G c
  lo : ∀ k, G k → W.heap.size ≤ k
  ap : ∀ k, F k ∨ k = wb → ¬ G k
theorem bs_start {w2 : World} (hd : Dk w2 b newS F) (lo : ∀ k, F k → W.heap.size ≤ k) (bel : Below W.heap.size W w2) (gv : Gv W) {s1 : St} (ho : openR newS = some (s1, nm 1, 1, [])) :
    Calls Tryz.prog 10 #[.pointer (some ⟨b, 0, none⟩)] (w2.alloc (.cells #[.slice none 0 0, .slice none 0 0] 30)) fun e w' => ∃ ad cp wb F', e = .returned (.tuple #[.pointer (some ⟨wb, 0, none⟩), .slice ad 0 cp, .int .i64 0]) ∧ Bs W w' b wb s1 F' 1 1 0 w2.heap.size newS (fun k => k = w2.heap.size) 0 := by
  have ga := World.grownBy_alloc w2 (.cells #[.slice none 0 0, .slice none 0 0] 30) none
  have hr := rs_new w2
  have hlt := hd.lt
  have hz := bel.size
  refine (open_some2 (hd.grown ga) lo (grown_low bel ga) gv (by simp [newS]) ho).mono ?_
  rintro e w' ⟨ad, cp, F', rfl, g1, g2, g3, g4, g5⟩
  refine ⟨ad, cp, _, F', rfl, g1, hr.kept g3 fun k hk e => by have := hlt k e; omega, fun k hk => by omega, fun k hk e => ?_⟩
  have e1 : (w2.alloc (.cells #[.slice none 0 0, .slice none 0 0] 30)).heap.size = w2.heap.size + 1 := by simp
  rcases hk with e2 | e2
  · rcases g2 k e2 with e2 | e2
    · have := hlt k e2; omega
    · omega
  · omega
theorem bs_ropen (h : Bs W w b wb s F n num cnt q t G c) (hc : c + 1048577 ≤ 999999999) {s' : St} {n' k : Nat} {ls' : List By} (ho : openR t = some (s', nm k, n', ls')) :
    Calls Tryz.prog 11 #[.pointer (some ⟨q, 0, none⟩)] w fun e w' => ∃ rb c' G', e = .returned (.tuple #[.pointer (some ⟨rb, 0, none⟩), .int .i64 0]) ∧ c' ≤ c + ls'.length + 1 ∧ Bo W w' b wb s F n num cnt q rb s' G' c' k n' ls'.length := by
  refine (ropen10 h.rs h.lo h.wl.bel hc).mono ?_
  rintro e w' (⟨g1, _⟩ | ⟨s2, n2, last2, ls2, rb', G', c', g1, rfl, g3, g4, g5, g6, g7, g8, g9, u, R, g10, g11, g12, g13⟩)
  · rw [ho] at g1; cases g1
  · rw [ho] at g1
    simp only [Option.some.injEq, Prod.mk.injEq] at g1
    obtain ⟨rfl, e2, rfl, rfl⟩ := g1
    have e2 := nm_inj e2
    subst e2
    refine ⟨rb', c', G', rfl, g4, h.wl.apart g7 fun k hk => ⟨fun e => h.ap k (.inl e) hk, fun e => h.ap k (.inr e) hk, h.lo k hk⟩, g3, fun k hk e => ?_⟩
    have hnew : ¬ w.heap.size ≤ k := fun e1 => by
      rcases hk with e2 | e2
      · have := h.wl.dk.lt k e2; omega
      · have := h.wl.lt; omega
    rcases e with e | e | ⟨v, e1, e2⟩
    · rcases g6 k e with e | e
      · exact h.ap k hk e
      · exact hnew e
    · exact hnew (by omega)
    · rw [g10] at e1
      injection e1 with e1
      subst e1
      exact hnew (g13 k e2)
/-- What is read. -/
theorem bp_read (h : Bp W w b wb s n num cnt q rb t c m last rc P C) (hn : n ≤ 999999999) (hh : has s.l (nm n) = true) :
    Calls Tryz.prog 23 #[.pointer (some ⟨b, 0, none⟩), .string ⟨(nm n).toArray⟩] w fun e w' => ∃ ad cp, e = .returned (.tuple #[.slice ad (rdB s.l (nm n)).length cp, .int .i64 0]) ∧ eB.Rx w' (.slice ad (rdB s.l (nm n)).length cp) (rdB s.l (nm n)) ∧ w.grownBy w' none := by
  obtain ⟨F, G, k1, x⟩ := h
  have hnl := nm_len (n := n) (by omega)
  have := wread_byt k1.wl (nm n) (by omega)
  rw [show hasE s.l (nm n) = 0 by unfold hasE; rw [if_pos hh]] at this
  refine this.mono ?_
  rintro e w' ⟨ad, cp, g1, g2, g3, g4, g5⟩
  exact ⟨ad, cp, g1, g4.rx, g5⟩
theorem bp_rread (h : Bp W w b wb s n num cnt q rb t c m last rc P C) (hc : c ≤ 999999999) (hh : has t.l (nm m) = true) :
    Calls Tryz.prog 25 #[.pointer (some ⟨q, 0, none⟩), .string ⟨(nm m).toArray⟩] w fun e w' => ∃ ad cp, e = .returned (.tuple #[.slice ad (rdB t.l (nm m)).length cp, .int .i64 0]) ∧ eB.Rx w' (.slice ad (rdB t.l (nm m)).length cp) (rdB t.l (nm m)) ∧ w.grownBy w' none := by
  obtain ⟨F, G, k1, x⟩ := h
  have := rs_read k1.wr.rs (by omega) (nm m)
  rw [show hasE t.l (nm m) = 0 by unfold hasE; rw [if_pos hh]] at this
  refine this.mono ?_
  rintro e w' ⟨ad, cp, g1, g4, g5⟩
  exact ⟨ad, cp, g1, g4.rx, g5⟩
theorem bp_file (h : Bp W w b wb s n num cnt q rb t c m last rc P C) : Calls Tryz.prog 24 #[.pointer (some ⟨wb, 0, none⟩)] w fun e w' => e = .returned (.string ⟨(nm n).toArray⟩) ∧ w' = w := by
  obtain ⟨F, G, k1, x⟩ := h
  exact file_any k1.wl
theorem bp_count (h : Bp W w b wb s n num cnt q rb t c m last rc P C) : Calls Tryz.prog 27 #[.pointer (some ⟨wb, 0, none⟩)] w fun e w' => e = .returned (.int .i64 (cnt : Int)) ∧ w' = w := by
  obtain ⟨F, G, k1, x⟩ := h
  exact count_any k1.wl
theorem bp_names (h : Bp W w b wb s n num cnt q rb t c m last rc P C) : Calls Tryz.prog 28 #[.pointer (some ⟨b, 0, none⟩)] w fun e w' => ∃ ad cp, e = .returned (.slice ad s.l.length cp) ∧ w.grownBy w' none := by
  obtain ⟨F, G, k1, x⟩ := h
  exact names_len b s F w k1.wl.dk
theorem bp_cells (h : Bp W w b wb s n num cnt q rb t c m last rc P C) : w.cell? ⟨rb, 1, none⟩ = some (.int .i64 (m : Int)) ∧ (∃ ad cp, w.cell? ⟨rb, 3, none⟩ = some (.slice ad rc cp)) ∧ ∃ ad cp, w.cell? ⟨q, 0, none⟩ = some (.slice ad t.l.length cp) := by
  obtain ⟨F, G, k1, x⟩ := h
  obtain ⟨ad, cp, vs, g1, _⟩ := k1.wr.c3
  obtain ⟨v, g2, g3⟩ := k1.wr.rs.files
  obtain ⟨ad2, c2, rfl⟩ := g3.rx.form
  refine ⟨k1.wr.c1, ⟨ad, cp, g1⟩, ad2, c2, ?_⟩
  rw [g2, srtS_len, List.length_map]
theorem bp_ok (h : Bp W w b wb s n num cnt q rb t c m last rc P C) : Ok s := by
  obtain ⟨F, G, k1, x⟩ := h
  exact k1.wl.dk.ok
theorem bp_out (h : Bp W w b wb s n num cnt q rb t c m last rc P C) : ∃ F G, Bo W w b wb s F n num cnt q rb t G c m last rc := by
  obtain ⟨F, G, k1, x⟩ := h
  exact ⟨F, G, k1⟩
end
/-- What stays true of the state: bounds after k steps. -/
structure Bb (s : St) (n last cnt c k : Nat) : Prop where
  n1 : 1 ≤ n
  nl : n ≤ last
  l9 : last ≤ 999999999
  has : Dsk.has s.l (nm n) = true
  m : s.m ≤ 1 + 1048600 * (k : Int)
  c : c ≤ 1 + 1048600 * k
  cnt : cnt ≤ 1048576 + 100 * k
theorem Bb.cle {s : St} {n last cnt c k : Nat} (h : Bb s n last cnt c k) (hk : k ≤ 100) : c ≤ 999999999 := by have := h.c; omega
theorem Bb.nle {s : St} {n last cnt c k : Nat} (h : Bb s n last cnt c k) : n ≤ 999999999 := Nat.le_trans h.nl h.l9
theorem grown_tr {w w1 w2 : World} (h : w.grownBy w1 none) (k : w1.grownBy w2 none) : w.grownBy w2 none := grown_more h k (by simp)
theorem has_lay {s : St} {x : By} {ls : List By} (h : (layS s x ls).2 = true) : Dsk.has (layS s x ls).1.l x = true := by
  unfold layS at h ⊢
  split
  · rename_i h1
    rw [if_pos h1] at h
    have h2 := of_decide_eq_true h
    have h3 : Dsk.has (layF s x (num ls.length :: ls)).1.l x = true := by
      cases hh : Dsk.has (layF s x (num ls.length :: ls)).1.l x with
      | true => rfl
      | false => unfold hasE at h2; rw [hh] at h2; cases h2
    exact (has_setF (layF s x (num ls.length :: ls)).1.l x x fun f => ⟨f.by_, []⟩).trans h3
  · rename_i h1
    rw [if_neg h1] at h
    cases h
theorem m_lay (s : St) (x : By) (ls : List By) : (layS s x ls).1.m ≤ s.m + ls.length + 1 := by
  have := layF_m x (num ls.length :: ls) s
  unfold layS
  split
  · show (layF s x (num ls.length :: ls)).1.m ≤ _
    simp at this
    omega
  · show (layF s x (num ls.length :: ls)).1.m ≤ _
    simp at this
    omega
theorem Bb.put {s : St} {n last cnt c k : Nat} (h : Bb s n last cnt c k) (hk : k < 100) (l : By) {c' : Nat} (hc : c' ≤ c + 1) : Bb (putS s (nm n) l) n last (if putE s (nm n) l = 0 then cnt + 1 else cnt) c' (k + 1) := by
  have h1 := putS_m s (nm n) l
  have h2 := h.m
  have h3 := h.c
  have h4 := h.cnt
  refine ⟨h.n1, h.nl, h.l9, ?_, by omega, by omega, by split <;> omega⟩
  unfold putS
  split
  · exact h.has
  · exact appS_keeps h.has
theorem Bb.sync {s : St} {n last cnt c k : Nat} (h : Bb s n last cnt c k) (hk : k < 100) : Bb (syncS s (nm n)) n last cnt c (k + 1) := by
  have h2 := h.m
  have h3 := h.c
  have h4 := h.cnt
  exact ⟨h.n1, h.nl, h.l9, (has_setF s.l (nm n) (nm n) fun f => ⟨f.by_, []⟩).trans h.has, by show s.m ≤ _; omega, by omega, by omega⟩
theorem Bb.same {s : St} {n last cnt c k : Nat} (h : Bb s n last cnt c k) : Bb s n last cnt c (k + 1) := by
  have h2 := h.m
  have h3 := h.c
  have h4 := h.cnt
  exact ⟨h.n1, h.nl, h.l9, h.has, by omega, by omega, by omega⟩
theorem Bb.lay {s : St} {n last cnt c k : Nat} (h : Bb s n last cnt c k) (hk : k < 100) {ls : List By} (hl : ls.length ≤ 100) (hla : last < 999999999) (hS : (layS s (nm (last + 1)) ls).2 = true) : Bb (remS (layS s (nm (last + 1)) ls).1 (nm n)) (last + 1) (last + 1) ls.length (c + ls.length + 1) (k + 1) := by
  have h1 := m_lay s (nm (last + 1)) ls
  have h2 := h.m
  have h3 := h.c
  have h5 := h.nl
  refine ⟨by omega, by omega, by omega, ?_, by show (layS s (nm (last + 1)) ls).1.m ≤ _; omega, by omega, by omega⟩
  rw [has_rem (fun e => by have := nm_inj e; omega)]
  exact has_lay hS
theorem Bb.write {s : St} {n last cnt c k : Nat} (h : Bb s n last cnt c k) (hk : k < 100) (x l : By) : Bb (appS s x l) n last cnt (c + 1) (k + 1) := by
  have h2 := h.m
  have h3 := h.c
  have h4 := h.cnt
  refine ⟨h.n1, h.nl, h.l9, appS_keeps h.has, ?_, by omega, by omega⟩
  unfold appS
  split
  · show s.m + 1 ≤ _; omega
  · omega
theorem Bb.open {s s' : St} {n last cnt c k n' last' c' : Nat} {ls : List By} (h : Bb s n last cnt c k) (hk : k < 100) {s1 : St} (h0 : s1.m = s.m) (ho : Ok s1) (hO : openR s1 = some (s', nm n', last', ls)) (hc : c' ≤ c + ls.length + 1) : Bb s' n' last' ls.length c' (k + 1) := by
  obtain ⟨k', e, h1, h2, h3, h4⟩ := open_any ho hO
  have e := nm_inj e
  subst e
  have h5 := (open_len ho hO).1
  have h6 := h.m
  have h7 := h.c
  exact ⟨h3.n1, h1, h2, h3.has, by omega, by omega, by omega⟩
end Go.Proofs.YtapdhkgeolcogaaGreatDoor
