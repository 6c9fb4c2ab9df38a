/- A disk in memory. -/
import Derived.Test.YthpeeldpalmakaaQMap
namespace Go.Proofs.Ythpeeldpalmakaa
open Go.RowKit Dsk
set_option linter.unusedVariables false
set_option maxRecDepth 10000

def eB : Elm UInt8 where
  el := 5
  sl := 31
  size := 1
  bytes := 1
  zero := .int .u8 0
  enc := fun x => [.int .u8 (x.toNat : Int)]
  hu := Try.underlying31
  hi := by kernel_rfl
  hz := rfl
  hs := by decide
  len := fun _ => rfl
  one := by intro x v hv; simp at hv; subst hv; rfl
  he := by kernel_rfl
  so := fun W => Try.sizeOf5 W
def eW : Elm (Int × Nat) where
  el := 63
  sl := 56
  size := 2
  bytes := 16
  zero := .agg #[.int .i64 0, .int .i64 0]
  enc := fun p => [.int .i64 p.1, .int .i64 (p.2 : Int)]
  hu := Try.underlying56
  hi := by kernel_rfl
  hz := rfl
  hs := by decide
  len := fun _ => rfl
  one := by intro x v hv; simp at hv; rcases hv with rfl | rfl <;> rfl
  he := by kernel_rfl
  so := fun W => Try.sizeOf63 W
def eS : Elm (List UInt8) where
  el := 9
  sl := 27
  size := 1
  bytes := 16
  zero := .string ⟨#[]⟩
  enc := fun l => [.string ⟨l.toArray⟩]
  hu := Try.underlying27
  hi := by kernel_rfl
  hz := rfl
  hs := by decide
  len := fun _ => rfl
  one := by intro x v hv; simp at hv; subst hv; rfl
  he := by kernel_rfl
  so := fun W => Try.sizeOf9 W
def eN : Elm Int where
  el := 2
  sl := 67
  size := 1
  bytes := 8
  zero := .int .i64 0
  enc := fun x => [.int .i64 x]
  hu := Try.underlying67
  hi := by kernel_rfl
  hz := rfl
  hs := by decide
  len := fun _ => rfl
  one := by intro x v hv; simp at hv; subst hv; rfl
  he := by kernel_rfl
  so := fun W => Try.sizeOf2 W

/-- A file in memory: its slices vb and vw. -/
structure FilD (w : World) (f : Nat) (vb vw : Value) (fl : Fl) : Prop where
  c0 : w.cell? ⟨f, 0, none⟩ = some vb
  c1 : w.cell? ⟨f, 1, none⟩ = some vw
  fr : ∀ i, w.frozen? ⟨f, i, none⟩ = false
  rb : eB.Own w 0 vb fl.by_
  rw : eW.Own w 0 vw fl.ws
  nb : vb.ownBlock ≠ some f
  nw : vw.ownBlock ≠ some f
  bw : ∀ k, vb.ownBlock = some k → vw.ownBlock ≠ some k
/-- A file in memory; its blocks lie in G. -/
def Fil (w : World) (f : Nat) (fl : Fl) (G : Nat → Prop) : Prop := ∃ vb vw, FilD w f vb vw fl ∧ G f ∧ (∀ k, vb.ownBlock = some k → G k) ∧ (∀ k, vw.ownBlock = some k → G k) ∧ ∀ k, G k → k < w.heap.size
theorem FilD.kept {F : Nat → Prop} {w w' : World} {f : Nat} {vb vw : Value} {fl : Fl} (h : FilD w f vb vw fl) (g : Chg F w w') (hf : ¬ F f) (hb : ∀ k, vb.ownBlock = some k → ¬ F k) (hw : ∀ k, vw.ownBlock = some k → ¬ F k) : FilD w' f vb vw fl :=
  ⟨g.cell h.c0 hf, g.cell h.c1 hf, fun i => (g.frozen (a := ⟨f, i, none⟩) (show f < w.heap.size from World.block_lt_of_cell? w ⟨f, 0, none⟩ h.c0) hf).trans (h.fr i), h.rb.kept g hb, h.rw.kept g hw, h.nb, h.nw, h.bw⟩
theorem Fil.kept {F G : Nat → Prop} {w w' : World} {f : Nat} {fl : Fl} (h : Fil w f fl G) (g : Chg F w w') (hd : ∀ k, G k → ¬ F k) : Fil w' f fl G := by
  obtain ⟨vb, vw, h1, h2, h3, h4, h5⟩ := h
  exact ⟨vb, vw, h1.kept g (hd f h2) (fun k hk => hd k (h3 k hk)) (fun k hk => hd k (h4 k hk)), h2, h3, h4, fun k hk => Nat.lt_of_lt_of_le (h5 k hk) g.size⟩
theorem Fil.lt {G : Nat → Prop} {w : World} {f : Nat} {fl : Fl} (h : Fil w f fl G) : ∀ k, G k → k < w.heap.size := by
  obtain ⟨vb, vw, h1, h2, h3, h4, h5⟩ := h
  exact h5
theorem Fil.self {G : Nat → Prop} {w : World} {f : Nat} {fl : Fl} (h : Fil w f fl G) : G f := by
  obtain ⟨vb, vw, h1, h2, h3, h4, h5⟩ := h
  exact h2

/-- A disk in memory: its block b, its map bm with the entries M, the files' contents c and blocks G by the files' own blocks. -/
structure DkD (w : World) (b bm : Nat) (M : List (List UInt8 × Nat)) (c : Nat → Fl) (G : Nat → Nat → Prop) (m : Int) : Prop where
  c0 : w.cell? ⟨b, 0, none⟩ = some (.map (some bm))
  c1 : w.cell? ⟨b, 1, none⟩ = some (.int .i64 m)
  fr : ∀ i, w.frozen? ⟨b, i, none⟩ = false
  map : MapOf w bm M
  fil : ∀ p ∈ M, Fil w p.2 (c p.2) (G p.2)
  inj : ∀ p ∈ M, ∀ q ∈ M, p.2 = q.2 → p = q
  apart : ∀ p ∈ M, ∀ q ∈ M, p.2 ≠ q.2 → ∀ k, G p.2 k → ¬ G q.2 k
  base : ∀ p ∈ M, ∀ k, G p.2 k → k ≠ b ∧ k ≠ bm
  bb : b ≠ bm
theorem DkD.kept {F : Nat → Prop} {w w' : World} {b bm : Nat} {M : List (List UInt8 × Nat)} {c : Nat → Fl} {G : Nat → Nat → Prop} {m : Int} (h : DkD w b bm M c G m) (g : Chg F w w') (hb : ¬ F b) (hm : ¬ F bm) (hf : ∀ p ∈ M, ∀ k, G p.2 k → ¬ F k) : DkD w' b bm M c G m :=
  ⟨g.cell h.c0 hb, g.cell h.c1 hb, fun i => (g.frozen (a := ⟨b, i, none⟩) (show b < w.heap.size from World.block_lt_of_cell? w ⟨b, 0, none⟩ h.c0) hb).trans (h.fr i), h.map.kept g hm, fun p hp => (h.fil p hp).kept g (hf p hp), h.inj, h.apart, h.base, h.bb⟩
theorem DkD.grown {w w' : World} {b bm : Nat} {M : List (List UInt8 × Nat)} {c : Nat → Fl} {G : Nat → Nat → Prop} {m : Int} (h : DkD w b bm M c G m) (g : w.grownBy w' none) : DkD w' b bm M c G m := h.kept (F := fun _ => False) (Chg.of g (by simp)) id id (fun _ _ _ _ => id)
/-- One file has turned. -/
theorem DkD.turn {w w' : World} {b bm : Nat} {M : List (List UInt8 × Nat)} {c : Nat → Fl} {G : Nat → Nat → Prop} {m : Int} (h : DkD w b bm M c G m) {p : List UInt8 × Nat} (hp : p ∈ M) (g : Chg (G p.2) w w') {fl : Fl} {G' : Nat → Prop} (hF : Fil w' p.2 fl G') (hG : ∀ k, G' k → G p.2 k ∨ w.heap.size ≤ k) :
    DkD w' b bm M (upd c p.2 fl) (upd G p.2 G') m := by
  have hb : b < w.heap.size := World.block_lt_of_cell? w _ h.c0
  have hm : bm < w.heap.size := h.map.lt
  have nb : ¬ G p.2 b := fun e => (h.base p hp b e).1 rfl
  have nm : ¬ G p.2 bm := fun e => (h.base p hp bm e).2 rfl
  have lt : ∀ q ∈ M, ∀ k, G q.2 k → k < w.heap.size := fun q hq => (h.fil q hq).lt
  refine ⟨g.cell h.c0 nb, g.cell h.c1 nb, fun i => (g.frozen (a := ⟨b, i, none⟩) hb nb).trans (h.fr i), h.map.kept g nm, fun q hq => ?_, h.inj, fun q hq r hr hne k h1 h2 => ?_, fun q hq k hk => ?_, h.bb⟩
  · by_cases e : q.2 = p.2
    · rw [e, upd_same, upd_same]; exact hF
    · rw [upd_other _ _ e, upd_other _ _ e]
      exact (h.fil q hq).kept g (h.apart q hq p hp e)
  · by_cases e1 : q.2 = p.2
    · rw [e1, upd_same] at h1
      have e2 : r.2 ≠ p.2 := fun e => hne (by rw [e1, e])
      rw [upd_other _ _ e2] at h2
      rcases hG k h1 with e | e
      · exact h.apart p hp r hr (fun e => e2 e.symm) k e h2
      · have := lt r hr k h2; omega
    · rw [upd_other _ _ e1] at h1
      by_cases e2 : r.2 = p.2
      · rw [e2, upd_same] at h2
        rcases hG k h2 with e | e
        · exact h.apart q hq p hp e1 k h1 e
        · have := lt q hq k h1; omega
      · rw [upd_other _ _ e2] at h2
        exact h.apart q hq r hr hne k h1 h2
  · by_cases e : q.2 = p.2
    · rw [e, upd_same] at hk
      rcases hG k hk with e | e
      · exact h.base p hp k e
      · exact ⟨by omega, by omega⟩
    · rw [upd_other _ _ e] at hk
      exact h.base q hq k hk
/-- Whose blocks they are. -/
def Foot (b bm : Nat) (M : List (List UInt8 × Nat)) (G : Nat → Nat → Prop) (k : Nat) : Prop := k = b ∨ k = bm ∨ ∃ p ∈ M, G p.2 k
def lay (M : List (List UInt8 × Nat)) (c : Nat → Fl) : Ds := M.map fun p => (p.1, c p.2)
/-- A disk at b, whose blocks are F's. -/
def Dk (w : World) (b : Nat) (s : St) (F : Nat → Prop) : Prop := ∃ bm M c G, DkD w b bm M c G s.m ∧ s.l = lay M c ∧ Ok s ∧ ∀ k, F k ↔ Foot b bm M G k
theorem Dk.ok {w : World} {b : Nat} {s : St} {F : Nat → Prop} (h : Dk w b s F) : Ok s := by
  obtain ⟨_, _, _, _, _, _, h, _⟩ := h
  exact h
theorem DkD.lt {w : World} {b bm : Nat} {M : List (List UInt8 × Nat)} {c : Nat → Fl} {G : Nat → Nat → Prop} {m : Int} (h : DkD w b bm M c G m) : ∀ k, Foot b bm M G k → k < w.heap.size := by
  rintro k (rfl | rfl | ⟨p, hp, hk⟩)
  · exact World.block_lt_of_cell? w _ h.c0
  · exact h.map.lt
  · exact (h.fil p hp).lt k hk
theorem Dk.lt {w : World} {b : Nat} {s : St} {F : Nat → Prop} (h : Dk w b s F) : ∀ k, F k → k < w.heap.size := by
  obtain ⟨bm, M, c, G, h1, h2, h3, h4⟩ := h
  exact fun k hk => h1.lt k ((h4 k).1 hk)
theorem Dk.kept {F T : Nat → Prop} {w w' : World} {b : Nat} {s : St} (h : Dk w b s F) (g : Chg T w w') (hd : ∀ k, F k → ¬ T k) : Dk w' b s F := by
  obtain ⟨bm, M, c, G, h1, h2, h3, h4⟩ := h
  exact ⟨bm, M, c, G, h1.kept g (hd b ((h4 b).2 (.inl rfl))) (hd bm ((h4 bm).2 (.inr (.inl rfl)))) (fun p hp k hk => hd k ((h4 k).2 (.inr (.inr ⟨p, hp, hk⟩)))), h2, h3, h4⟩
theorem Dk.grown {F : Nat → Prop} {w w' : World} {b : Nat} {s : St} (h : Dk w b s F) (g : w.grownBy w' none) : Dk w' b s F := h.kept (T := fun _ => False) (Chg.of g (by simp)) (fun _ _ => id)
theorem lay_keys (M : List (List UInt8 × Nat)) (c : Nat → Fl) : (lay M c).map (·.1) = M.map (·.1) := by simp [lay]
theorem lay_has (M : List (List UInt8 × Nat)) (c : Nat → Fl) (nm : List UInt8) : has (lay M c) nm = M.any fun p => p.1 == nm := by
  unfold has lay
  rw [List.any_map]
  rfl
theorem lay_set {M : List (List UInt8 × Nat)} {c : Nat → Fl} (nd : (M.map (·.1)).Nodup) (inj : ∀ p ∈ M, ∀ q ∈ M, p.2 = q.2 → p = q) {p : List UInt8 × Nat} (hp : p ∈ M) (g : Fl → Fl) : lay M (upd c p.2 (g (c p.2))) = setF (lay M c) p.1 g := by
  unfold lay setF
  rw [List.map_map]
  refine List.map_congr_left fun q hq => ?_
  simp only [Function.comp]
  by_cases e : q.2 = p.2
  · have := inj q hq p hp e
    subst this
    rw [upd_same, if_pos rfl]
  · rw [upd_other _ _ e, if_neg]
    intro e1
    have : q = p := by
      obtain ⟨A, B, rfl⟩ := List.append_of_mem hp
      rw [List.map_append, List.map_cons, List.nodup_append, List.nodup_cons] at nd
      obtain ⟨n1, ⟨n2, n3⟩, n4⟩ := nd
      rcases List.mem_append.1 hq with h | h
      · exact absurd e1 (n4 _ (List.mem_map.2 ⟨q, h, rfl⟩) _ (by simp))
      · rcases List.mem_cons.1 h with h | h
        · exact h
        · exact absurd (List.mem_map.2 ⟨q, h, e1⟩) n2
    exact e (by rw [this])
end Go.Proofs.Ythpeeldpalmakaa
