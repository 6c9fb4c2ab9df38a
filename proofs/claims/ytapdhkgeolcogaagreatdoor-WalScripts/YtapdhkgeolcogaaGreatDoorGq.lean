/- Bytes as the frames' contracts read them; lists of records in memory. -/
import Derived.Test.YtapdhkgeolcogaaGreatDoorGj
import Derived.Test.YtapdhkgeolcogaaGreatDoorGm
namespace Go.Proofs.YtapdhkgeolcogaaGreatDoor
open Go.RowKit Dsk Lg
set_option linter.unusedVariables false

theorem cells_bI (l : By) : eB.cells l = (bI l).map (Value.int .u8) := by
  unfold Elm.cells bI
  induction l with
  | nil => rfl
  | cons a l ih => rw [List.flatMap_cons, ih]; rfl
theorem own_cd {w : World} {base : Nat} {v : Value} {l : By} (h : eB.Own w base v l) : Cd.Own w base v (bI l) := by
  refine ⟨?_, bI_bytes l⟩
  have := h
  unfold Elm.Own at this
  rw [cells_bI, ← bI_len] at this
  exact this
theorem cd_own {w : World} {base : Nat} {v : Value} {l : List Int} (h : Cd.Own w base v l) : eB.Own w base v (iB l) := by
  unfold Elm.Own
  rw [cells_bI, bI_iB h.bytes, iB_len]
  exact h.row
theorem cell_bI {l : By} {i : Nat} (hi : i < l.length) : (eB.cells l)[i]? = some (.int .u8 ((bI l).getD i 0)) := by
  rw [cells_bI, List.getElem?_map]
  simp [bI, hi]
theorem rx_cd {w : World} {v : Value} {l : By} (h : eB.Rx w v l) (hl : l.length ≤ 9223372036854775807) : Cd.Rd w v (bI l) := by
  refine ⟨bI_bytes l, by rw [bI_len]; exact hl, ?_⟩
  rcases h with ⟨rfl, rfl⟩ | ⟨⟨b, o, sp⟩, c, rfl, hs, hc⟩
  · exact .inl ⟨rfl, .inl rfl⟩
  · by_cases h0 : l = []
    · subst h0
      exact .inl ⟨rfl, .inr ⟨_, _, rfl⟩⟩
    · rcases hs with hs | hs
      · exact absurd hs h0
      · simp only at hs
        subst hs
        refine .inr ⟨b, o, c, by rw [bI_len], fun i hi => ?_⟩
        rw [bI_len] at hi
        have := hc i _ (cell_bI hi)
        rwa [Addr.add_lit] at this
theorem cd_rx {w : World} {v : Value} {l : By} (h : Cd.Rd w v (bI l)) : eB.Rx w v l := by
  rcases h.val with ⟨h0, e⟩ | ⟨b, o, c, e, hc⟩
  · have : l = [] := by cases l with | nil => rfl | cons a l => simp [bI] at h0
    subst this
    rcases e with rfl | ⟨a, c, rfl⟩
    · exact .inl ⟨rfl, rfl⟩
    · exact .inr ⟨a, c, rfl, .inl rfl, by simp [Elm.cells]⟩
  · rw [bI_len] at e
    refine .inr ⟨⟨b, o, none⟩, c, e, .inr rfl, fun t x hx => ?_⟩
    have ht : t < l.length := by
      have := (List.getElem?_eq_some_iff.1 hx).1
      rw [cells_bI, List.length_map, bI_len] at this
      exact this
    rw [cell_bI ht] at hx
    injection hx with hx
    rw [Addr.add_lit, ← hx]
    exact hc t (by rw [bI_len]; exact ht)

/-- A slice value by its parts. -/
abbrev S3 := Option Addr × Nat × Nat
abbrev sv (p : S3) : Value := .slice p.1 p.2.1 p.2.2
def eL : Elm S3 where
  el := 39
  sl := 32
  size := 1
  bytes := 24
  zero := .slice none 0 0
  enc := fun p => [.slice p.1 p.2.1 p.2.2]
  hu := Tryz.underlying32
  hi := by kernel_rfl
  hz := rfl
  hs := by decide
  len := fun _ => rfl
  one := by intro x v hv; simp at hv; subst hv; rfl
  he := by kernel_rfl
  so := fun W => Tryz.sizeOf39 W
/-- The slices vs read as the records ls; the bytes lie in R. -/
def Each (w : World) (vs : List S3) (ls : List By) (R : Nat → Prop) : Prop :=
  vs.length = ls.length ∧ ∀ (i : Nat) p l, vs[i]? = some p → ls[i]? = some l → eB.Rx w (sv p) l ∧ (l ≠ [] → ∀ k, (sv p).ownBlock = some k → R k)
theorem Each.kept {F R : Nat → Prop} {w w' : World} {vs : List S3} {ls : List By} (h : Each w vs ls R) (g : Chg F w w') (hd : ∀ k, R k → ¬ F k) : Each w' vs ls R :=
  ⟨h.1, fun i p l hp hl => ⟨(h.2 i p l hp hl).1.kept' g fun h0 k hk => hd k ((h.2 i p l hp hl).2 h0 k hk), (h.2 i p l hp hl).2⟩⟩
theorem Each.grown {R : Nat → Prop} {w w' : World} {vs : List S3} {ls : List By} (h : Each w vs ls R) (g : w.grownBy w' none) : Each w' vs ls R :=
  h.kept (F := fun _ => False) (Chg.of g (by simp)) fun _ _ => id
theorem Each.wide {R R' : Nat → Prop} {w : World} {vs : List S3} {ls : List By} (h : Each w vs ls R) (hR : ∀ k, R k → R' k) : Each w vs ls R' :=
  ⟨h.1, fun i p l hp hl => ⟨(h.2 i p l hp hl).1, fun h0 k hk => hR k ((h.2 i p l hp hl).2 h0 k hk)⟩⟩
theorem Each.nil (w : World) (R : Nat → Prop) : Each w [] [] R := ⟨rfl, by simp⟩
theorem Each.snoc {R : Nat → Prop} {w : World} {vs : List S3} {ls : List By} (h : Each w vs ls R) {p : S3} {l : By} (hp : eB.Rx w (sv p) l) (hR : l ≠ [] → ∀ k, (sv p).ownBlock = some k → R k) : Each w (vs ++ [p]) (ls ++ [l]) R := by
  refine ⟨by simp [h.1], fun i q m hq hm => ?_⟩
  by_cases hi : i < vs.length
  · rw [List.getElem?_append_left hi] at hq
    rw [List.getElem?_append_left (by rw [← h.1]; exact hi)] at hm
    exact h.2 i q m hq hm
  · have hi2 : i = vs.length := by
      have := (List.getElem?_eq_some_iff.1 hq).1
      simp at this
      omega
    subst hi2
    rw [List.getElem?_append_right (Nat.le_refl _), Nat.sub_self] at hq
    rw [h.1, List.getElem?_append_right (Nat.le_refl _), Nat.sub_self] at hm
    simp at hq hm
    subst hq hm
    exact ⟨hp, hR⟩
theorem Each.take {R : Nat → Prop} {w : World} {vs : List S3} {ls : List By} (h : Each w vs ls R) (k : Nat) : Each w (vs.take k) (ls.take k) R := by
  refine ⟨by rw [List.length_take, List.length_take, h.1], fun i q m hq hm => ?_⟩
  rw [List.getElem?_take] at hq hm
  split at hq
  · rename_i hi
    rw [if_pos hi] at hm
    exact h.2 i q m hq hm
  · cases hq
theorem Each.both {R : Nat → Prop} {w : World} {vs us : List S3} {ls ms : List By} (h : Each w vs ls R) (k : Each w us ms R) : Each w (vs ++ us) (ls ++ ms) R := by
  refine ⟨by simp [h.1, k.1], fun i q m hq hm => ?_⟩
  by_cases hi : i < vs.length
  · rw [List.getElem?_append_left hi] at hq
    rw [List.getElem?_append_left (by rw [← h.1]; exact hi)] at hm
    exact h.2 i q m hq hm
  · rw [List.getElem?_append_right (by omega)] at hq
    rw [List.getElem?_append_right (by rw [← h.1]; omega), ← h.1] at hm
    exact k.2 _ q m hq hm
/-- The slice v reads as the records ls; all of it lies in R. -/
def Rl (w : World) (v : Value) (ls : List By) (R : Nat → Prop) : Prop := ∃ vs, eL.Rx w v vs ∧ Each w vs ls R ∧ (vs ≠ [] → ∀ k, v.ownBlock = some k → R k)
theorem Rl.kept {F R : Nat → Prop} {w w' : World} {v : Value} {ls : List By} (h : Rl w v ls R) (g : Chg F w w') (hd : ∀ k, R k → ¬ F k) : Rl w' v ls R := by
  obtain ⟨vs, h1, h2, h3⟩ := h
  exact ⟨vs, h1.kept' g fun h0 k hk => hd k (h3 h0 k hk), h2.kept g hd, h3⟩
theorem Rl.grown {R : Nat → Prop} {w w' : World} {v : Value} {ls : List By} (h : Rl w v ls R) (g : w.grownBy w' none) : Rl w' v ls R :=
  h.kept (F := fun _ => False) (Chg.of g (by simp)) fun _ _ => id
theorem Rl.wide {R R' : Nat → Prop} {w : World} {v : Value} {ls : List By} (h : Rl w v ls R) (hR : ∀ k, R k → R' k) : Rl w v ls R' := by
  obtain ⟨vs, h1, h2, h3⟩ := h
  exact ⟨vs, h1, h2.wide hR, fun h0 k hk => hR k (h3 h0 k hk)⟩
theorem Rl.form {R : Nat → Prop} {w : World} {v : Value} {ls : List By} (h : Rl w v ls R) : ∃ ad c, v = .slice ad ls.length c := by
  obtain ⟨vs, h1, h2, h3⟩ := h
  obtain ⟨ad, c, e⟩ := h1.form
  exact ⟨ad, c, by rw [← h2.1]; exact e⟩
/-- A row of records of one's own, from block 'base' on; their bytes in R. -/
def Ro (w : World) (base : Nat) (v : Value) (ls : List By) (R : Nat → Prop) : Prop := ∃ vs, eL.Own w base v vs ∧ Each w vs ls R
theorem Ro.form {R : Nat → Prop} {w : World} {base : Nat} {v : Value} {ls : List By} (h : Ro w base v ls R) : ∃ ad c, v = .slice ad ls.length c := by
  obtain ⟨vs, h1, h2⟩ := h
  obtain ⟨ad, c, e⟩ := Elm.form h1
  exact ⟨ad, c, by rw [← h2.1]; exact e⟩
theorem Ro.kept {F R : Nat → Prop} {w w' : World} {base : Nat} {v : Value} {ls : List By} (h : Ro w base v ls R) (g : Chg F w w') (hv : ∀ k, v.ownBlock = some k → ¬ F k) (hd : ∀ k, R k → ¬ F k) : Ro w' base v ls R := by
  obtain ⟨vs, h1, h2⟩ := h
  exact ⟨vs, h1.kept g hv, h2.kept g hd⟩
theorem Ro.grown {R : Nat → Prop} {w w' : World} {base : Nat} {v : Value} {ls : List By} (h : Ro w base v ls R) (g : w.grownBy w' none) : Ro w' base v ls R :=
  h.kept (F := fun _ => False) (Chg.of g (by simp)) (fun _ _ => id) fun _ _ => id
theorem Ro.wide {R R' : Nat → Prop} {w : World} {base : Nat} {v : Value} {ls : List By} (h : Ro w base v ls R) (hR : ∀ k, R k → R' k) : Ro w base v ls R' := by
  obtain ⟨vs, h1, h2⟩ := h
  exact ⟨vs, h1, h2.wide hR⟩
theorem Ro.low {R : Nat → Prop} {w : World} {base base' : Nat} {v : Value} {ls : List By} (h : Ro w base v ls R) (hb : base' ≤ base) : Ro w base' v ls R := by
  obtain ⟨vs, h1, h2⟩ := h
  exact ⟨vs, h1.low hb, h2⟩
theorem Ro.lt {R : Nat → Prop} {w : World} {base : Nat} {v : Value} {ls : List By} (h : Ro w base v ls R) : ∀ k, v.ownBlock = some k → base ≤ k ∧ k < w.heap.size := by
  obtain ⟨vs, h1, h2⟩ := h
  exact h1.lt
theorem Ro.nil (w : World) (base : Nat) (R : Nat → Prop) : Ro w base (.slice none 0 0) [] R := ⟨[], Elm.nil _ _, Each.nil _ _⟩
theorem Ro.rl {R : Nat → Prop} {w : World} {base : Nat} {v : Value} {ls : List By} (h : Ro w base v ls R) {R' : Nat → Prop} (hR : ∀ k, R k → R' k) (hv : ∀ k, base ≤ k → k < w.heap.size → R' k) : Rl w v ls R' := by
  obtain ⟨vs, h1, h2⟩ := h
  exact ⟨vs, h1.rx, h2.wide hR, fun _ k hk => hv k (h1.lt k hk).1 (h1.lt k hk).2⟩
end Go.Proofs.YtapdhkgeolcogaaGreatDoor
