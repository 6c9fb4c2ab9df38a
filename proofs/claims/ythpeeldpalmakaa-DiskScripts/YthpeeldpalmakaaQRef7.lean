/- The reference's Append, whatever it is asked; both disks side by side. -/
import Derived.Test.YthpeeldpalmakaaQRefO
namespace Go.Proofs.Ythpeeldpalmakaa
open Go.RowKit Dsk
set_option linter.unusedVariables false
set_option maxRecDepth 10000

theorem put_rf {q : Nat} {vN vL : Value} {N : List (List UInt8)} {L : List Rw} {x l : List UInt8} {w w' : World} (h : RfD w q vN vL N L) (p : PutOut q vL L x l w w') :
    ∃ vL', RfD w' q vN vL' N (L ++ [⟨x, l, false⟩]) ∧ (vL'.ownBlock = vL.ownBlock ∨ ∃ k, vL'.ownBlock = some k ∧ w.heap.size ≤ k) ∧ Chg (fun j => j = q ∨ vL.ownBlock = some j) w w' := by
  obtain ⟨w7, vL', rfl, g, o, hb⟩ := p
  have nq : some q ≠ vL.ownBlock := fun e => h.nL e.symm
  have qw : q < w.heap.size := World.block_lt_of_cell? w _ h.c0
  have gs := grown_set w7 ⟨q, 1, none⟩ vL'
  have n7 : vL'.ownBlock ≠ some q := fun e => by
    rcases hb with c | ⟨j, c, hj⟩
    · exact h.nL (c ▸ e)
    · rw [c] at e; injection e with e; omega
  refine ⟨vL', ⟨(set_other (by simp)).trans (g.cell h.c0 nq), set_same (g.cell h.c1 nq), fun i => (World.frozen?_setCell _ _ _ _).trans ?_, (h.oN.but g fun k hk e => h.ap k hk e).but gs fun k hk e => h.nN (by injection e with e; have e2 : q = k := e; rw [e2]; exact hk), o.but gs fun k hk e => n7 (by injection e with e; have e2 : q = k := e; rw [e2]; exact hk), h.nN, n7, fun k hk e => ?_⟩, hb, ?_⟩
  · rw [World.frozen?_of_block (w := w) (a := ⟨q, i, none⟩) (g.block q qw nq)]
    exact h.fr i
  · rcases hb with c | ⟨j, c, hj⟩
    · exact h.ap k hk (c ▸ e)
    · rw [c] at e; injection e with e
      have := (h.oN.lt k hk).2
      omega
  · exact (Chg.of (F := fun j => j = q ∨ vL.ownBlock = some j) g fun k hk => .inr hk).grown gs fun k hk => .inl (.inl (by injection hk with hk; exact hk.symm))
theorem out_of {q : Nat} {N' : List (List UInt8)} {L' : List Rw} {G : Nat → Prop} {w w' : World} {vN' vL' : Value} (h : RfD w' q vN' vL' N' L') (hq : G q) (hlt : ∀ k, G k → k < w.heap.size) (bN : ∀ k, vN'.ownBlock = some k → G k ∨ w.heap.size ≤ k) (bL : ∀ k, vL'.ownBlock = some k → G k ∨ w.heap.size ≤ k) (C : Chg G w w') : ROut q N' L' G w w' := by
  have z := C.size
  have qw := hlt q hq
  exact ⟨fun k => k < w'.heap.size ∧ (G k ∨ w.heap.size ≤ k), ⟨vN', vL', h, ⟨by omega, .inl hq⟩, fun k hk => ⟨(h.oN.lt k hk).2, bN k hk⟩, fun k hk => ⟨(h.oL.lt k hk).2, bL k hk⟩, fun k hk => hk.1⟩, fun k hk => hk.2, C⟩
def rappE (N : List (List UInt8)) (L : List Rw) (x : List UInt8) (n : Nat) : Int := if isNm x = false then 1 else if (rhas N x = false ∧ 64 ≤ N.length) ∨ 1048576 < rtot L + n then 3 else 0
def AppTo (N : List (List UInt8)) (L : List Rw) (x l : List UInt8) (N' : List (List UInt8)) (L' : List Rw) : Prop := (rappE N L x l.length ≠ 0 → N' = N ∧ L' = L) ∧ (rappE N L x l.length = 0 → L' = L ++ [⟨x, l, false⟩] ∧ if rhas N x = true then N' = N else ∃ k, Spot N x k ∧ N' = N.take k ++ x :: N.drop k)
theorem rapp_any (q : Nat) (N : List (List UInt8)) (L : List Rw) (G : Nat → Prop) (x l : List UInt8) (v : Value) (hx : x.length ≤ 140737488351232) (hl : l.length ≤ 140737488351232) (hN : N.length ≤ 64) (hL : L.length ≤ 1000000) (ht : rtot L ≤ 1048576) (w : World) (h : Rf w q N L G) (hX : eB.Rx w v l) (hdj : l ≠ [] → ∀ j, v.ownBlock = some j → ¬ G j) :
    Calls Try.prog 10 #[.pointer (some ⟨q, 0, none⟩), .string ⟨x.toArray⟩, v] w fun e w' => e = .returned (.int .i64 (rappE N L x l.length)) ∧ ∃ N' L', ROut q N' L' G w w' ∧ AppTo N L x l N' L' := by
  obtain ⟨ad, c, rfl⟩ := hX.form
  obtain ⟨vN, vL, h1, h2, h3, h4, h5⟩ := id h
  cases hb : isNm x with
  | false =>
    have he : rappE N L x l.length = 1 := by unfold rappE; rw [if_pos hb]
    refine (rapp_bad q x hx _ hb w).mono ?_
    rintro e w' ⟨rfl, rfl⟩
    exact ⟨by rw [he], N, L, h.outs (grown_refl _ _), fun _ => ⟨rfl, rfl⟩, fun c => by rw [he] at c; cases c⟩
  | true =>
    by_cases hf : (rhas N x = false ∧ 64 ≤ N.length) ∨ 1048576 < rtot L + l.length
    · have he : rappE N L x l.length = 3 := by unfold rappE; rw [if_neg (by rw [hb]; simp), if_pos hf]
      refine (rapp_full q vN vL N L x hx ad l.length c hl hb hN hL ht hf w h1).mono ?_
      rintro e w' ⟨rfl, rfl⟩
      exact ⟨by rw [he], N, L, h.outs (grown_refl _ _), fun _ => ⟨rfl, rfl⟩, fun c => by rw [he] at c; cases c⟩
    · have he : rappE N L x l.length = 0 := by unfold rappE; rw [if_neg (by rw [hb]; simp), if_neg hf]
      have hroom : rtot L + l.length ≤ 1048576 := by
        have : ¬ 1048576 < rtot L + l.length := fun c => hf (.inr c)
        omega
      cases hh : rhas N x with
      | true =>
        refine (rapp_old q vN vL N L x hx ad l.length c l rfl hb hN hL hroom hh w h1 hX).mono ?_
        rintro e w' ⟨rfl, p⟩
        obtain ⟨vL', r, bl, C⟩ := put_rf h1 p
        refine ⟨by rw [he], N, _, out_of r h2 h5 (fun k hk => .inl (h3 k hk)) (fun k hk => ?_) (C.wide fun k hk => ?_), fun c => absurd he c, fun _ => ⟨rfl, by rw [if_pos hh]⟩⟩
        · rcases bl with e | ⟨j, e, hj⟩
          · exact .inl (h4 k (e ▸ hk))
          · rw [e] at hk; injection hk with hk; exact .inr (by omega)
        · rcases hk with e | e
          · rw [e]; exact h2
          · exact h4 k e
      | false =>
        have h64 : N.length < 64 := by
          have : ¬ 64 ≤ N.length := fun c => hf (.inl ⟨hh, c⟩)
          omega
        refine (rapp_no q vN vL N L x hx ad l.length c l rfl hb hN hL hroom hh h64 w h1 hX fun hne j hj => ⟨fun e => hdj hne j hj (by rw [e]; exact h2), fun e => hdj hne j hj (h3 j e)⟩).mono ?_
        rintro e w' ⟨rfl, k, w6, vN6, sp, r6, bN, C6, p⟩
        obtain ⟨vL', r, bl, C⟩ := put_rf r6 p
        have z6 := C6.size
        refine ⟨by rw [he], _, _, out_of r h2 h5 (fun k hk => ?_) (fun k hk => ?_) ?_, fun c => absurd he c, fun _ => ⟨rfl, by rw [if_neg (by rw [hh]; simp)]; exact ⟨k, sp, rfl⟩⟩⟩
        · rcases bN with e | ⟨j, e, hj⟩
          · exact .inl (h3 k (e ▸ hk))
          · rw [e] at hk; injection hk with hk; exact .inr (by omega)
        · rcases bl with e | ⟨j, e, hj⟩
          · exact .inl (h4 k (e ▸ hk))
          · rw [e] at hk; injection hk with hk; exact .inr (by omega)
        · refine (C6.wide (G := G) fun k hk => ?_).trans C fun k hk => .inl ?_
          · rcases hk with e | e
            · rw [e]; exact h2
            · exact h3 k e
          · rcases hk with e | e
            · rw [e]; exact h2
            · exact h4 k e
/-- Both disks, made since W, and one of the script's in a box of its own. -/
def Cells5 (w : World) (P : Nat) (o : Dd) : Prop := w.cell? ⟨P, 0, none⟩ = some (.int .i64 o.kd) ∧ w.cell? ⟨P, 1, none⟩ = some (.string o.nm) ∧ w.cell? ⟨P, 2, none⟩ = some o.v ∧ w.cell? ⟨P, 3, none⟩ = some (.int .i64 o.keep) ∧ w.cell? ⟨P, 4, none⟩ = some (.int .i64 o.torn)
def Jh (W w : World) (b q : Nat) (s : St) (N : List (List UInt8)) (L : List Rw) (F G : Nat → Prop) : Prop := Lv W w b s F ∧ Rf w q N L G ∧ (∀ k, G k → W.heap.size ≤ k) ∧ ∀ k, F k → ¬ G k
def Jx (W w : World) (b q : Nat) (s : St) (N : List (List UInt8)) (L : List Rw) (P : Nat) (o : Dd) : Prop := ∃ F G, Jh W w b q s N L F G ∧ Cells5 w P o ∧ ¬ F P ∧ ¬ G P
theorem Cells5.kept {F : Nat → Prop} {w w' : World} {P : Nat} {o : Dd} (h : Cells5 w P o) (C : Chg F w w') (hf : ¬ F P) : Cells5 w' P o := ⟨C.cell h.1 hf, C.cell h.2.1 hf, C.cell h.2.2.1 hf, C.cell h.2.2.2.1 hf, C.cell h.2.2.2.2 hf⟩
theorem Cells5.lt {w : World} {P : Nat} {o : Dd} (h : Cells5 w P o) : P < w.heap.size := World.block_lt_of_cell? w ⟨P, 0, none⟩ h.1
theorem Jh.ref {W w w' : World} {b q : Nat} {s : St} {N N' : List (List UInt8)} {L L' : List Rw} {F G : Nat → Prop} (h : Jh W w b q s N L F G) (r : ROut q N' L' G w w') : ∃ G', Jh W w' b q s N' L' F G' ∧ (∀ k, G' k → G k ∨ w.heap.size ≤ k) ∧ Chg G w w' := by
  obtain ⟨h1, h2, h3, h4⟩ := h
  obtain ⟨G', r1, r2, C⟩ := r
  have lt := h1.1.lt
  have wz := h1.2.2.size
  refine ⟨G', ⟨⟨h1.1.kept C h4, h1.2.1, ?_⟩, r1, fun k hk => ?_, fun k hk c => ?_⟩, r2, C⟩
  · exact Chg.low h1.2.2 C h3
  · rcases r2 k hk with e | e
    · exact h3 k e
    · omega
  · rcases r2 k c with e | e
    · exact h4 k hk e
    · have := lt k hk; omega
theorem Jx.ref {W w w' : World} {b q : Nat} {s : St} {N N' : List (List UInt8)} {L L' : List Rw} {F G : Nat → Prop} {P : Nat} {o : Dd} (h : Jh W w b q s N L F G) (c : Cells5 w P o) (nF : ¬ F P) (nG : ¬ G P) (r : ROut q N' L' G w w') : Jx W w' b q s N' L' P o := by
  obtain ⟨G', h', r2, C⟩ := h.ref r
  refine ⟨F, G', h', c.kept C nG, nF, fun e => ?_⟩
  rcases r2 P e with e | e
  · exact nG e
  · have := c.lt; omega
theorem Jh.prog {W w w' : World} {b q : Nat} {s s' : St} {N : List (List UInt8)} {L : List Rw} {F G F' : Nat → Prop} (h : Jh W w b q s N L F G) (h' : Lv W w' b s' F') (f : ∀ k, F' k → F k ∨ w.heap.size ≤ k) (C : Chg F w w') : Jh W w' b q s' N L F' G := by
  obtain ⟨h1, h2, h3, h4⟩ := h
  have lt : ∀ k, G k → k < w.heap.size := by obtain ⟨_, _, _, _, _, _, e⟩ := h2; exact e
  refine ⟨h', h2.kept C fun k hk c => h4 k c hk, h3, fun k hk c => ?_⟩
  rcases f k hk with e | e
  · exact h4 k e c
  · have := lt k c; omega
theorem Jh.grown {W w w' : World} {b q : Nat} {s : St} {N : List (List UInt8)} {L : List Rw} {F G : Nat → Prop} (h : Jh W w b q s N L F G) (g : w.grownBy w' none) : Jh W w' b q s N L F G := ⟨h.1.grown g, h.2.1.grown g, h.2.2⟩
theorem Jx.grown {W w w' : World} {b q : Nat} {s : St} {N : List (List UInt8)} {L : List Rw} {P : Nat} {o : Dd} (h : Jx W w b q s N L P o) (g : w.grownBy w' none) : Jx W w' b q s N L P o := by
  obtain ⟨F, G, h1, c, nF, nG⟩ := h
  exact ⟨F, G, h1.grown g, c.kept (F := fun _ => False) (Chg.of g (by simp)) id, nF, nG⟩
end Go.Proofs.Ythpeeldpalmakaa
