/- What was answered is written into: rows of an answer, as far as their lengths go. Sizes behind any message; a row of entries that is made and filled. An answer that is written into; another one that stays. A whole struct is loaded where a guard is on. -/
import Derived.Test.YtdpcebaggldaiaaGOwn
import Derived.Test.YtdpcebaggldaiaaMf
import Derived.Test.YtdpcebaggldaiaaMa
import Derived.Test.YtdpcebaggldaiaaGAwake
namespace Go.Proofs.Ytdpcebaggldaiaa
open Go.RowKit Trl
open Rft (Nd Mg)
set_option linter.unusedVariables false
set_option maxRecDepth 10000

/-- Rows of unlike elements lie in unlike blocks. -/
theorem own_other {α β : Type} {E : Elm α} {E2 : Elm β} (hne : E.el ≠ E2.el) {w : World} {base base2 : Nat} {v v2 : Value} {l : List α} {l2 : List β} (h : E.Own w base v l) (h2 : E2.Own w base2 v2 l2) {k : Nat} (e : v.ownBlock = some k) : v2.ownBlock ≠ some k := fun e2 => by
  rcases h.2 with ⟨rfl, _⟩ | ⟨g, cap, cur, rfl, _, hh, _⟩
  · cases e
  · rcases h2.2 with ⟨rfl, _⟩ | ⟨g2, cap2, cur2, rfl, _, hh2, _⟩
    · cases e2
    · injection e with e
      injection e2 with e2
      have e' : g = k := e
      have e2' : g2 = k := e2
      subst e' 
      subst e2'
      rw [hh] at hh2
      injection hh2 with hh2
      injection hh2 with _ hh2
      exact hne hh2
/-- A row that was answered, from block S on, ahead of q: its length; or an empty one without room. -/
def Rq {α : Type} (E : Elm α) (w : World) (S q : Nat) (v : Value) (n : Nat) : Prop :=
  (∃ l : List α, l.length = n ∧ E.Own w S v l ∧ ∀ k, v.ownBlock = some k → k < q) ∨ (n = 0 ∧ ∃ a, v = .slice (some a) 0 0)
theorem Rq.of {α : Type} {E : Elm α} {w : World} {S q : Nat} {T : Nat → Nat} {i : Nat} {v : Value} {l : List α} (h : Row E w S T i v l) (hq : w.heap.size ≤ q) : Rq E w S q v l.length := by
  rcases h with ⟨h, _⟩ | ⟨rfl, a, rfl⟩
  · exact .inl ⟨l, rfl, h, fun k hk => Nat.lt_of_lt_of_le (h.lt k hk).2 hq⟩
  · exact .inr ⟨rfl, a, rfl⟩
theorem Rq.kept {α : Type} {E : Elm α} {F : Nat → Prop} {w w' : World} {S q : Nat} {v : Value} {n : Nat} (h : Rq E w S q v n) (g : Chg F w w') (hF : ∀ l, E.Own w S v l → ∀ k, v.ownBlock = some k → S ≤ k → k < q → ¬ F k) : Rq E w' S q v n := by
  rcases h with ⟨l, hl, h, hk⟩ | h
  · exact .inl ⟨l, hl, h.kept g (fun k e => hF l h k e (h.lt k e).1 (hk k e)), hk⟩
  · exact .inr h
theorem Rq.grown {α : Type} {E : Elm α} {w w' : World} {S q : Nat} {v : Value} {n : Nat} (h : Rq E w S q v n) (g : w.grownBy w' none) : Rq E w' S q v n := h.kept (F := fun _ => False) (Chg.of g (by simp)) (fun _ _ _ _ _ _ => id)
theorem Rq.form {α : Type} {E : Elm α} {w : World} {S q : Nat} {ad : Option Addr} {m c n : Nat} (h : Rq E w S q (.slice ad m c) n) : m = n := by
  rcases h with ⟨l, hl, h, _⟩ | ⟨h0, a, e⟩
  · rw [← hl]; exact h.len
  · injection e with _ e _; omega
theorem eE_cells_set (l : List En) (i : Nat) (x : Int) (y : En) (hy : l[i]? = some y) : eE.cells (l.set i (x, y.2)) = (eE.cells l).set (i * 2) (.int .i64 x) := by
  have hi := (List.getElem?_eq_some_iff.1 hy).1
  apply List.ext_getElem?
  intro t
  by_cases ht : t < l.length * 2
  · obtain ⟨z, hz⟩ : ∃ z, (l.set i (x, y.2))[t / 2]? = some z := ⟨_, List.getElem?_eq_getElem (by rw [List.length_set]; omega)⟩
    have h1 := Elm.cells_at eE hz (t % 2) (Nat.mod_lt _ (by decide))
    have e : t / 2 * eE.size + t % 2 = t := by show t / 2 * 2 + t % 2 = t; omega
    rw [e] at h1
    rw [h1, List.getElem?_set]
    by_cases e1 : i = t / 2
    · subst e1
      rw [List.getElem?_set_self hi] at hz
      injection hz with hz
      subst hz
      have h2 := Elm.cells_at eE hy (t % 2) (Nat.mod_lt _ (by decide))
      rw [e] at h2
      rcases Nat.mod_two_eq_zero_or_one t with h0 | h0
      · rw [if_pos (by omega), if_pos (by rw [Elm.cells_len]; show t / 2 * 2 < l.length * 2; omega), h0]
        rfl
      · rw [if_neg (by omega), h2, h0]
        rfl
    · rw [if_neg (by omega)]
      rw [List.getElem?_set_ne e1] at hz
      have h2 := Elm.cells_at eE hz (t % 2) (Nat.mod_lt _ (by decide))
      rw [e] at h2
      exact h2.symm
  · rw [List.getElem?_eq_none (by rw [Elm.cells_len, List.length_set]; show l.length * 2 ≤ t; omega), List.getElem?_eq_none (by rw [List.length_set, Elm.cells_len]; show l.length * 2 ≤ t; omega)]
/-- An entry's term is written: every row of entries is one still. -/
theorem Rq.termE {w : World} {S q : Nat} {v v2 : Value} {n n2 i : Nat} (h : Rq eE w S q v n) (hi : i < n) (x : Int) :
    ∃ g c u0, v = .slice (some ⟨g, 0, none⟩) n c ∧ w.cell? ⟨g, i * 2, none⟩ = some u0 ∧ w.frozen? ⟨g, i * 2, none⟩ = false ∧ S ≤ g ∧ g < q ∧ (∃ l, eE.Own w S v l) ∧ v.ownBlock = some g ∧
      (∀ v2 n2, Rq eE w S q v2 n2 → Rq eE (w.setCell ⟨g, i * 2, none⟩ (.int .i64 x)) S q v2 n2) := by
  rcases h with ⟨l, hl, h, hk⟩ | ⟨h0, _⟩
  · obtain ⟨y, hy⟩ : ∃ y, l[i]? = some y := ⟨_, List.getElem?_eq_getElem (by omega)⟩
    obtain ⟨g, c, e, h2, h3⟩ := h.at_ hy
    have hc := h2 0 (.int .i64 y.1) rfl
    have es : eE.size = 2 := rfl
    rw [es, Nat.add_zero] at hc
    have eb : v.ownBlock = some g := by rw [e]; rfl
    rw [hl] at e
    refine ⟨g, c, _, e, hc, h3 _, (h.lt g eb).1, hk g eb, ⟨l, h⟩, eb, fun v2 n2 r2 => ?_⟩
    have C : Chg (fun k => k = g) w (w.setCell ⟨g, i * 2, none⟩ (.int .i64 x)) := chg_setb (Chg.refl _ w) g (i * 2) _ rfl
    rcases r2 with ⟨l2, hl2, o2, hk2⟩ | r2
    · by_cases eg : v2.ownBlock = some g
      · rcases o2.2 with ⟨e2, _⟩ | ⟨g', cap, cur, e2, hg, hh, k1, k2, k3, k4⟩
        · rw [e2] at eg; cases eg
        · have eg' : g' = g := by rw [e2] at eg; injection eg
          subst eg'
          have hset := setCell_eq_setRow w g' (i * 2) cur eE.el (0, 0) (.int .i64 x) hh
          by_cases hi2 : i < l2.length
          · obtain ⟨y2, hy2⟩ : ∃ y, l2[i]? = some y := ⟨_, List.getElem?_eq_getElem hi2⟩
            refine .inl ⟨l2.set i (x, y2.2), by rw [List.length_set]; exact hl2, ⟨by rw [Elm.cells_len], .inr ⟨g', cap, cur.setIfInBounds (i * 2) (.int .i64 x), by rw [List.length_set]; exact e2, hg, by rw [hset]; exact setRow_heap w g' cur _ eE.el (0, 0) hh, by rw [List.length_set]; exact k1, k2, by simpa using k3, ?_⟩⟩, hk2⟩
            rw [List.length_set, eE_cells_set l2 i x y2 hy2, ← k4]
            simp only [Array.toList_setIfInBounds]
            rw [List.take_set]
          · refine .inl ⟨l2, hl2, ⟨by rw [Elm.cells_len], .inr ⟨g', cap, cur.setIfInBounds (i * 2) (.int .i64 x), e2, hg, by rw [hset]; exact setRow_heap w g' cur _ eE.el (0, 0) hh, k1, k2, by simpa using k3, ?_⟩⟩, hk2⟩
            rw [← k4]
            simp only [Array.toList_setIfInBounds]
            rw [List.take_set_of_le (by show l2.length * 2 ≤ i * 2; omega)]
      · exact .inl ⟨l2, hl2, o2.kept C (fun k e e' => eg (by rw [e, e'])), hk2⟩
    · exact .inr r2
  · omega
/-- A number is written. -/
theorem Rq.numN {w : World} {S q : Nat} {v : Value} {n i : Nat} (h : Rq eN w S q v n) (hi : i < n) (hn : n ≤ 9223372036854775807) (x : Int) :
    ∃ g c u0, v = .slice (some ⟨g, 0, none⟩) n c ∧ w.cell? ⟨g, i, none⟩ = some u0 ∧ w.frozen? ⟨g, i, none⟩ = false ∧ S ≤ g ∧ g < q ∧ (∃ l, eN.Own w S v l) ∧ v.ownBlock = some g ∧ Rq eN (w.setCell ⟨g, i, none⟩ (.int .i64 x)) S q v n := by
  rcases h with ⟨l, hl, h, hk⟩ | ⟨h0, _⟩
  · obtain ⟨g, u0, _, k2, k3, k4, k5⟩ := h.set (E := eN) rfl (by omega) (i := i) (by omega) x (.int .i64 x) rfl
    rcases h.2 with ⟨e2, _⟩ | ⟨g', cap, cur, e2, hg, hh, _⟩
    · rw [e2] at k4; cases k4
    · have eg' : g' = g := by rw [e2] at k4; injection k4
      subst eg'
      exact ⟨g', cap, u0, by rw [← hl]; exact e2, k2, k3, (h.lt g' k4).1, hk g' k4, ⟨l, h⟩, k4, .inl ⟨l.set i x, by rw [List.length_set]; exact hl, k5, hk⟩⟩
  · omega
/-- One more behind a row: it lies in the row's block, or in a new one. -/
theorem Rq.app {α : Type} {E : Elm α} {w : World} {S q : Nat} {v : Value} {n : Nat} (h : Rq E w S q v n) (hS : S ≤ w.heap.size) (b : Addr) (x : α) (hX : E.Rx w (.slice (some b) 1 1) [x]) (hb : n + 1 ≤ 4611686018427387904) (hby : (n + 1) * E.bytes ≤ 140737488355328) (hc : Builtin.nextslicecap 1 0 * E.bytes ≤ 281474976710656) (ty : TypeId) :
    ∃ ad m c w', (Builtin.append_ #[E.sl, E.sl] ty #[v, .slice (some b) 1 1]).run Try.prog w = .ok (.slice ad m c) w' ∧ Chg (fun k => (∃ l, E.Own w S v l) ∧ v.ownBlock = some k ∧ S ≤ k ∧ k < q) w w' := by
  rcases h with ⟨l, hl, h, hk⟩ | ⟨h0, a, e⟩
  · obtain ⟨v', w', hr, h2, h3, h5⟩ := Elm.run_append h hX (by simp; omega) (by simp; rw [hl]; exact hby) hS ty
    obtain ⟨ad, c, rfl⟩ := Elm.form h2
    exact ⟨ad, _, c, w', hr, Chg.of h3 (fun k e => ⟨⟨l, h⟩, e, (h.lt k e).1, hk k e⟩)⟩
  · subst e
    obtain ⟨i, hi, hz0, hz1, hz2⟩ := info_parts E.hi
    rcases hX with ⟨e, _⟩ | ⟨a', c', e, _, hcell⟩
    · cases e
    · injection e with e _ _
      injection e with e
      subst e
      have hr := run_append_grow (P := Try.prog) (w := w) E.sl ty E.el i E.zero E.hu hi hz0 a 0 0 [] (by simp) (by simp) b 1 1 (E.cells [x]) (by rw [Elm.cells_len, hz1]; rfl) (fun j u hu => hcell j u hu) (by omega) (by simp) (by rw [hz2]; exact hc)
      exact ⟨_, _, _, _, hr, Chg.of (grown_alloc (grown_drew (grown_refl w none)) _) (by simp)⟩
theorem Rq.wp_app {α : Type} {E : Elm α} {w : World} {S q : Nat} {v : Value} {n : Nat} (h : Rq E w S q v n) (hS : S ≤ w.heap.size) (b : Addr) (x : α) (hX : E.Rx w (.slice (some b) 1 1) [x]) (hb : n + 1 ≤ 4611686018427387904) (hby : (n + 1) * E.bytes ≤ 140737488355328) (hc : Builtin.nextslicecap 1 0 * E.bytes ≤ 281474976710656)
    {ops : Array Oper} {rest : List Oper} {o : Oper} {a : Act} {Q : Exit → Act → World → Prop} (hgd : o.guard = none) (s y : Operand)
    (ho : o.op = .call { callee := .builtin .append, args := #[s, y], argTypes := #[E.sl, E.sl] }) (hs : a.eval s = v) (hy : a.eval y = .slice (some b) 1 1)
    (hk : ∀ ad m c w', Chg (fun k => (∃ l, E.Own w S v l) ∧ v.ownBlock = some k ∧ S ≤ k ∧ k < q) w w' → wpList Try.prog ops Q rest (a.put o.dst (.slice ad m c)) w') : wpList Try.prog ops Q (o :: rest) a w :=
  wpList_plain hgd fun K hK => by
    obtain ⟨ad, m, c, w', hr, hC⟩ := h.app hS b x hX hb hby hc o.type
    unfold Oper.wp execOp
    simp only [ho, resolve, invoke, builtin, Sem.run_bind, Sem.run_pure, Result.andThen_ok, List.map_toArray, List.map_cons, List.map_nil, hs, hy, hr]
    exact hK _ _ (hk ad m c w' hC)
end Go.Proofs.Ytdpcebaggldaiaa
namespace Go.Proofs.Ytdpcebaggldaiaa
open Go.RowKit Trl
open Rft (Nd Mg)
set_option linter.unusedVariables false
set_option maxRecDepth 10000

theorem Sz.heard {k : Nat} {r : Nd} (h : Sz k r) (m : Mg) : Sz k (Rft.heard r m) := ⟨h.c, h.e, by simp [Rft.heard, Rft.clear], by simp [Rft.heard, Rft.clear], by simp [Rft.heard, Rft.clear]⟩
theorem Sz.pushed {r : Nd} (h : Sz 4096 r) (hk : chk r.b r.k r.l = true) (m : Mg) : Sz 4096 (Rft.pushedN r m) := by
  have h0 := h.heard m
  unfold Rft.pushedN
  split
  · exact h0
  · rename_i l hl
    have h1 := ((chk_iff _ _ _).1 (Put_chk hl hk)).2.2.1
    exact ⟨h0.c, h1, h0.v, h0.n, h0.m⟩
theorem Sz.bundled {k : Nat} {r : Nd} (h : Sz k r) (m : Mg) : Sz k (Rft.bundledN r m) := by
  have h0 := h.heard m
  have he := h.e
  unfold Rft.bundledN
  split
  · split
    · exact ⟨h0.c, by show (r.l.drop _).length ≤ k; rw [List.length_drop]; omega, h0.v, h0.n, h0.m⟩
    · exact ⟨h0.c, by show ([] : List En).length ≤ k; simp, h0.v, h0.n, h0.m⟩
  · exact h0
theorem Sz.acked {k : Nat} {r : Nd} (h : Sz k r) (m : Mg) : Sz k (Rft.ackedN r m) := by
  unfold Rft.ackedN
  split
  · exact h
  · split
    · unfold Rft.ackY
      exact Sz.agree ⟨h.c, h.e, h.v, by simpa using h.n, by simpa using h.m⟩
    · unfold Rft.ackF
      exact ⟨h.c, h.e, h.v, by simpa using h.n, h.m⟩
/-- A message to a node that can be read leaves one that can be read. -/
theorem hand_lens_any {r : Nd} (h : Lens r) (m : Mg) : Lens (Rft.handN r m) := by
  by_cases hm : m.kind = 1 ∨ m.kind = 2
  · exact hand_lens h m hm
  cases hk : Rft.ok r with
  | false =>
    unfold Rft.handN
    rw [if_pos (by rw [hk]; rfl)]
    exact h
  | true =>
    have h0 := ok_sz hk
    have hlog := (ok_parts hk).1.log
    have h1 := h0.later m
    have hl1 : chk (Rft.later r m).b (Rft.later r m).k (Rft.later r m).l = true := by
      unfold Rft.later
      split <;> exact hlog
    unfold Rft.handN
    split
    · exact h
    · split
      · exact h1.lens (by omega)
      · unfold Rft.armN
        rw [if_neg (by omega), if_neg (by omega)]
        split
        · split
          · exact h1.lens (by omega)
          · exact (h1.pushed hl1 m).lens (by omega)
        · split
          · split
            · exact h1.lens (by omega)
            · exact (h1.bundled m).lens (by omega)
          · split
            · exact (h1.acked m).lens (by omega)
            · exact h1.lens (by omega)
theorem push_es (r : Nd) (i : Nat) : (Rft.pushM r i).es.length ≤ 8 := by
  unfold Rft.pushM
  split
  · simp [Rft.mg0]
  · simp; omega
theorem pushTo_es (r : Nd) (L : List Mg) (hL : ∀ x ∈ L, x.es.length ≤ 8) : ∀ j, ∀ x ∈ Rft.pushTo r L j, x.es.length ≤ 8
  | 0 => hL
  | j + 1 => by
    have ih := pushTo_es r L hL j
    unfold Rft.pushTo
    split
    · exact ih
    · intro x hx
      unfold Rft.push Rft.say at hx
      rcases List.mem_append.1 hx with hx | hx
      · exact ih x hx
      · rw [List.mem_singleton] at hx
        subst hx
        exact push_es r j
theorem askTo_es (r : Nd) (L : List Mg) (hL : ∀ x ∈ L, x.es.length ≤ 8) : ∀ j, ∀ x ∈ Rft.askTo r L j, x.es.length ≤ 8
  | 0 => hL
  | j + 1 => by
    have ih := askTo_es r L hL j
    unfold Rft.askTo
    split
    · exact ih
    · intro x hx
      unfold Rft.say at hx
      rcases List.mem_append.1 hx with hx | hx
      · exact ih x hx
      · rw [List.mem_singleton] at hx
        subst hx
        simp [Rft.mg0]
/-- What a tick sends has few entries. -/
theorem tick_es (r : Nd) (d : Int) : ∀ x ∈ Rft.tickL r d, x.es.length ≤ 8 := by
  unfold Rft.tickL
  split
  · simp
  · split
    · simp
    · split
      · exact pushTo_es _ [] (by simp) _
      · unfold Rft.standL
        split
        · simp
        · split
          · exact pushTo_es _ [] (by simp) _
          · exact askTo_es _ [] (by simp) _
theorem eE_cells_setd (l : List En) (i : Nat) (d : ByteArray) (y : En) (hy : l[i]? = some y) : eE.cells (l.set i (y.1, d)) = (eE.cells l).set (i * 2 + 1) (.string d) := by
  have hi := (List.getElem?_eq_some_iff.1 hy).1
  apply List.ext_getElem?
  intro t
  by_cases ht : t < l.length * 2
  · obtain ⟨z, hz⟩ : ∃ z, (l.set i (y.1, d))[t / 2]? = some z := ⟨_, List.getElem?_eq_getElem (by rw [List.length_set]; omega)⟩
    have h1 := Elm.cells_at eE hz (t % 2) (Nat.mod_lt _ (by decide))
    have e : t / 2 * eE.size + t % 2 = t := by show t / 2 * 2 + t % 2 = t; omega
    rw [e] at h1
    rw [h1, List.getElem?_set]
    by_cases e1 : i = t / 2
    · subst e1
      rw [List.getElem?_set_self hi] at hz
      injection hz with hz
      subst hz
      have h2 := Elm.cells_at eE hy (t % 2) (Nat.mod_lt _ (by decide))
      rw [e] at h2
      rcases Nat.mod_two_eq_zero_or_one t with h0 | h0
      · rw [if_neg (by omega), h2, h0]
        rfl
      · rw [if_pos (by omega), if_pos (by rw [Elm.cells_len]; show t / 2 * 2 + 1 < l.length * 2; omega), h0]
        rfl
    · rw [if_neg (by omega)]
      rw [List.getElem?_set_ne e1] at hz
      have h2 := Elm.cells_at eE hz (t % 2) (Nat.mod_lt _ (by decide))
      rw [e] at h2
      exact h2.symm
  · rw [List.getElem?_eq_none (by rw [Elm.cells_len, List.length_set]; show l.length * 2 ≤ t; omega), List.getElem?_eq_none (by rw [List.length_set, Elm.cells_len]; show l.length * 2 ≤ t; omega)]
/-- One cell of a row of entries is set. -/
theorem eE_own_set {w : World} {base g c : Nat} {l l' : List En} {t : Nat} {u : Value} (h : eE.Own w base (.slice (some ⟨g, 0, none⟩) l.length c) l) (hl : l'.length = l.length) (hc : eE.cells l' = (eE.cells l).set t u) : eE.Own (w.setCell ⟨g, t, none⟩ u) base (.slice (some ⟨g, 0, none⟩) l.length c) l' := by
  rcases h.2 with ⟨e, _⟩ | ⟨g', cap, cur, e, hg, hh, k1, k2, k3, k4⟩
  · cases e
  · injection e with e1 _ e2
    injection e1 with e1
    injection e1 with e1
    subst e1 e2
    have hset := setCell_eq_setRow w g t cur eE.el (0, 0) u hh
    refine ⟨by rw [Elm.cells_len], .inr ⟨g, c, cur.setIfInBounds t u, by rw [hl], hg, by rw [hset]; exact setRow_heap w g cur _ eE.el (0, 0) hh, by rw [hl]; exact k1, k2, by simpa using k3, ?_⟩⟩
    rw [hl, hc, ← k4]
    simp only [Array.toList_setIfInBounds]
    rw [List.take_set]
/-- An entry of an own row is set. -/
theorem eE_own_entry {w : World} {base g c : Nat} {l : List En} {i : Nat} (h : eE.Own w base (.slice (some ⟨g, 0, none⟩) l.length c) l) (hi : i < l.length) (e : En) :
    ∃ u0 u1, w.cell? ⟨g, i * 2, none⟩ = some u0 ∧ w.cell? ⟨g, i * 2 + 1, none⟩ = some u1 ∧ (∀ t, w.frozen? ⟨g, t, none⟩ = false) ∧ base ≤ g ∧ g < w.heap.size ∧ eE.Own ((w.setCell ⟨g, i * 2, none⟩ (.int .i64 e.1)).setCell ⟨g, i * 2 + 1, none⟩ (.string e.2)) base (.slice (some ⟨g, 0, none⟩) l.length c) (l.set i e) ∧ ∀ x : Int, ∃ l', l'.length = l.length ∧ (∀ j, j ≠ i → l'[j]? = l[j]?) ∧ eE.Own (w.setCell ⟨g, i * 2, none⟩ (.int .i64 x)) base (.slice (some ⟨g, 0, none⟩) l.length c) l' := by
  obtain ⟨y, hy⟩ : ∃ y, l[i]? = some y := ⟨_, List.getElem?_eq_getElem hi⟩
  obtain ⟨g', c', e', h2, h3⟩ := h.at_ hy
  injection e' with e1 _ _
  injection e1 with e1
  injection e1 with e1
  subst e1
  have hc0 := h2 0 (.int .i64 y.1) rfl
  have hc1 := h2 1 (.string y.2) rfl
  have es : eE.size = 2 := rfl
  rw [es, Nat.add_zero] at hc0
  rw [es] at hc1
  have hlt := h.lt g rfl
  refine ⟨_, _, hc0, hc1, h3, hlt.1, hlt.2, ?_, fun x => ⟨l.set i (x, y.2), by rw [List.length_set], fun j hj => List.getElem?_set_ne (fun e => hj e.symm), eE_own_set h (by rw [List.length_set]) (eE_cells_set l i x y hy)⟩⟩
  have s1 := eE_own_set (l' := l.set i (e.1, y.2)) h (by rw [List.length_set]) (eE_cells_set l i e.1 y hy)
  have hy2 : (l.set i (e.1, y.2))[i]? = some (e.1, y.2) := List.getElem?_set_self hi
  have hl2 : (l.set i (e.1, y.2)).length = l.length := by rw [List.length_set]
  rw [← hl2] at s1 ⊢
  have s2 := eE_own_set (l' := (l.set i (e.1, y.2)).set i e) (t := i * 2 + 1) (u := .string e.2) s1 (by rw [List.length_set]) (eE_cells_setd (l.set i (e.1, y.2)) i e.2 (e.1, y.2) hy2)
  rw [List.set_set] at s2
  exact s2
theorem made_e (N : Nat) : (madeCells (Value.agg #[.int .i64 0, .string ⟨#[]⟩]).cells (N * 2)).toList = eE.cells (List.replicate N (0, ⟨#[]⟩)) := by
  apply List.ext_getElem?
  intro t
  by_cases ht : t < N * 2
  · have hz : (List.replicate N ((0, ⟨#[]⟩) : En))[t / 2]? = some (0, ⟨#[]⟩) := by rw [List.getElem?_replicate, if_pos (by omega)]
    have h1 := Elm.cells_at eE hz (t % 2) (Nat.mod_lt _ (by decide))
    have e : t / 2 * eE.size + t % 2 = t := by show t / 2 * 2 + t % 2 = t; omega
    rw [e] at h1
    rw [h1, Array.getElem?_toList, Array.getElem?_eq_getElem (by rw [size_madeCells]; exact ht)]
    unfold madeCells
    simp only [Array.getElem_map, Array.getElem_range]
    rcases Nat.mod_two_eq_zero_or_one t with h0 | h0
    · rw [h0]
      show some ((#[Value.int .i64 0, .string ⟨#[]⟩])[t % 2]!) = _
      rw [h0]
      rfl
    · rw [h0]
      show some ((#[Value.int .i64 0, .string ⟨#[]⟩])[t % 2]!) = _
      rw [h0]
      rfl
  · rw [List.getElem?_eq_none (by rw [Array.length_toList, size_madeCells]; omega), List.getElem?_eq_none (by rw [Elm.cells_len, List.length_replicate]; show N * 2 ≤ t; omega)]
/-- A row of entries is made. -/
theorem make_e (N : Nat) (hN : N * 24 ≤ 140737488355328) (W : World) : ∃ W', (Instr.makeSlice 23 (.int .i64 (N : Int)) (.int .i64 (N : Int))).run Try.prog W = .ok (.slice (some ⟨W.heap.size, 0, none⟩) N N) W' ∧ eE.Own W' W.heap.size (.slice (some ⟨W.heap.size, 0, none⟩) N N) (List.replicate N (0, ⟨#[]⟩)) ∧ W.grownBy W' none := by
  obtain ⟨i, hi, hz0, hz1, hz2⟩ := info_parts eE.hi
  have z2 : i.bytes = 24 := hz2
  obtain ⟨W', h1, h2, h3⟩ := run_make_full (P := Try.prog) W W.heap.size 23 34 i (.agg #[.int .i64 0, .string ⟨#[]⟩]) 2 Try.underlying23 hi hz0 hz1 .i64 .i64 N (by rw [z2]; omega) (by unfold maxLen; omega) (Nat.le_refl _)
  refine ⟨W', h1, ?_, h3⟩
  unfold Elm.Own
  rw [List.length_replicate, ← made_e]
  exact h2
end Go.Proofs.Ytdpcebaggldaiaa
namespace Go.Proofs.Ytdpcebaggldaiaa
open Go.RowKit Trl
open Rft (Nd Mg)
set_option linter.unusedVariables false
set_option maxRecDepth 10000

/-- What was answered, as far as it is written into: the node in its box, its rows, the messages' rows. -/
structure Aa (S q : Nat) (W : World) (r : Nd) (V : Sv) (s : S3) (X : List (Mg × S3)) : Prop where
  bx : Rb W q (nc r V)
  e : Rq eE W S q (.slice V.e.a V.e.n V.e.c) V.e.n
  n : Rq eN W S q (.slice V.n.a V.n.n V.n.c) V.n.n
  c : Rq eK W S q (.slice V.c.a V.c.n V.c.c) V.c.n
  x : eM.Own W S (.slice s.a s.n s.c) X
  xl : ∀ k, (Value.slice s.a s.n s.c).ownBlock = some k → k < q
  m : ∀ y ∈ X, Rq eE W S q (.slice y.2.a y.2.n y.2.c) y.2.n
theorem Aa.grown {S q : Nat} {W W' : World} {r : Nd} {V : Sv} {s : S3} {X : List (Mg × S3)} (h : Aa S q W r V s X) (g : W.grownBy W' none) : Aa S q W' r V s X :=
  ⟨h.bx.grown g, h.e.grown g, h.n.grown g, h.c.grown g, h.x.grown g, h.xl, fun y hy => (h.m y hy).grown g⟩
theorem Aa.of {w W W' : World} {q : Nat} {r : Nd} {V : Sv} {s : S3} {X : List (Mg × S3)} {T : Nat → Nat} (o : Own5 W w.heap.size r V T) (l : eM.Own W w.heap.size (.slice s.a s.n s.c) X) (m : ∀ x ∈ X, Row eE W w.heap.size T 1 x.2.v x.1.es) (hq : W.heap.size = q) (g : W.grownBy W' none) (b : Rb W' q (nc r V)) : Aa w.heap.size q W' r V s X := by
  have e1 := Rq.of o.e (Nat.le_of_eq hq)
  have e2 := Rq.of o.n (Nat.le_of_eq hq)
  have e3 := Rq.of o.c (Nat.le_of_eq hq)
  rw [← Row.len o.e] at e1
  rw [← Row.len o.n] at e2
  rw [← Row.len o.c] at e3
  exact ⟨b, e1.grown g, e2.grown g, e3.grown g, l.grown g, fun k hk => by have := (l.lt k hk).2; omega, fun y hy => by
    have e4 := Rq.of (m y hy) (Nat.le_of_eq hq)
    rw [← Row.len (m y hy)] at e4
    exact e4.grown g⟩
theorem Rb.set {w : World} {q : Nat} {cs : List Value} (h : Rb w q cs) (i : Nat) (v : Value) : Rb (w.setCell ⟨q, i, none⟩ v) q (cs.set i v) := by
  refine ⟨fun j x hx => ?_, fun j hj => ?_, by rw [size_set]; exact h.2.2⟩
  · by_cases e : i = j
    · subst e
      have hl : i < cs.length := by obtain ⟨h1, _⟩ := List.getElem?_eq_some_iff.mp hx; simpa using h1
      rw [List.getElem?_set_self hl] at hx
      injection hx with hx
      subst hx
      rw [Nat.zero_add]
      exact set_same (h.at_ i (List.getElem?_eq_getElem hl))
    · rw [List.getElem?_set_ne e] at hx
      rw [Nat.zero_add]
      rw [set_other (by simp)]
      exact h.at_ j hx
  · rw [List.length_set] at hj
    obtain ⟨h1, h2⟩ := h.2.1 j hj
    refine ⟨?_, by simpa using h2⟩
    by_cases e : i = j
    · subst e
      rw [Nat.zero_add, set_same (h.at_ i (List.getElem?_eq_getElem hj))]
      rfl
    · rw [Nat.zero_add] at h1 ⊢
      rw [set_other (by simp)]
      exact h1
theorem Row.grown {α : Type} {E : Elm α} {w w' : World} {base : Nat} {T : Nat → Nat} {i : Nat} {v : Value} {l : List α} (h : Row E w base T i v l) (g : w.grownBy w' none) : Row E w' base T i v l := h.kept (F := fun _ => False) (Chg.of g (by simp)) (fun _ _ _ _ => id)
theorem Rq.max {α : Type} {E : Elm α} {w : World} {S q : Nat} {v : Value} {n : Nat} (h : Rq E w S q v n) : n ≤ 9223372036854775807 := by
  rcases h with ⟨l, hl, h, _⟩ | ⟨h0, _⟩
  · rcases h.2 with ⟨_, h0⟩ | ⟨g, cap, cur, e, hg, hh, h1, h2, h3, h4⟩
    · omega
    · unfold maxLen at h2
      omega
  · omega
theorem nsc_e : Builtin.nextslicecap 1 0 * eE.bytes ≤ 281474976710656 := by decide
theorem nsc_k : Builtin.nextslicecap 1 0 * eK.bytes ≤ 281474976710656 := by decide
theorem el_en : eE.el ≠ eN.el := by decide
theorem el_ek : eE.el ≠ eK.el := by decide
theorem el_em : eE.el ≠ eM.el := by decide
theorem el_nk : eN.el ≠ eK.el := by decide
theorem el_nm : eN.el ≠ eM.el := by decide
/-- A term is written. -/
theorem Aa.term {S q i : Nat} {W : World} {r : Nd} {V : Sv} {s : S3} {X : List (Mg × S3)} {v : Value} {n : Nat} (h : Aa S q W r V s X) (hv : Rq eE W S q v n) (hi : i < n) :
    ∃ g c u0, v = .slice (some ⟨g, 0, none⟩) n c ∧ W.cell? ⟨g, i * 2, none⟩ = some u0 ∧ W.frozen? ⟨g, i * 2, none⟩ = false ∧ Aa S q (W.setCell ⟨g, i * 2, none⟩ (.int .i64 (-9))) r V s X ∧ Chg (fun k => S ≤ k ∧ k < q + 1) W (W.setCell ⟨g, i * 2, none⟩ (.int .i64 (-9))) := by
  obtain ⟨g, c, u0, e1, e2, e3, e4, e5, ⟨lo, o⟩, eb, hE⟩ := hv.termE (v2 := v) (n2 := n) hi (-9)
  have C : Chg (fun k => k = g) W (W.setCell ⟨g, i * 2, none⟩ (.int .i64 (-9))) := chg_setb (Chg.refl _ W) g (i * 2) _ rfl
  refine ⟨g, c, u0, e1, e2, e3, ⟨h.bx.kept C (fun e => by omega), hE _ _ h.e, ?_, ?_, ?_, h.xl, fun y hy => hE _ _ (h.m y hy)⟩, C.wide (fun k e => by subst e; omega)⟩
  · exact h.n.kept C (fun l o2 k hk _ _ e => own_other el_en o o2 eb (by rw [hk, e]))
  · exact h.c.kept C (fun l o2 k hk _ _ e => own_other el_ek o o2 eb (by rw [hk, e]))
  · exact h.x.kept C (fun k hk e => own_other el_em o h.x eb (by rw [hk, e]))
/-- A number of Next is written. -/
theorem Aa.next {S q i : Nat} {W : World} {r : Nd} {V : Sv} {s : S3} {X : List (Mg × S3)} (h : Aa S q W r V s X) (hi : i < V.n.n) (hn : V.n.n ≤ 9223372036854775807) :
    ∃ g u0, V.n.a = some ⟨g, 0, none⟩ ∧ W.cell? ⟨g, i, none⟩ = some u0 ∧ W.frozen? ⟨g, i, none⟩ = false ∧ Aa S q (W.setCell ⟨g, i, none⟩ (.int .i64 (-9))) r V s X ∧ Chg (fun k => S ≤ k ∧ k < q + 1) W (W.setCell ⟨g, i, none⟩ (.int .i64 (-9))) := by
  obtain ⟨g, c, u0, e1, e2, e3, e4, e5, ⟨lo, o⟩, eb, hE⟩ := h.n.numN hi hn (-9)
  have C : Chg (fun k => k = g) W (W.setCell ⟨g, i, none⟩ (.int .i64 (-9))) := chg_setb (Chg.refl _ W) g i _ rfl
  injection e1 with e1 _ _
  refine ⟨g, u0, e1, e2, e3, ⟨h.bx.kept C (fun e => by omega), ?_, hE, ?_, ?_, h.xl, fun y hy => ?_⟩, C.wide (fun k e => by subst e; omega)⟩
  · exact h.e.kept C (fun l o2 k hk _ _ e => own_other el_en o2 o hk (by rw [eb, e]))
  · exact h.c.kept C (fun l o2 k hk _ _ e => own_other el_nk o o2 eb (by rw [hk, e]))
  · exact h.x.kept C (fun k hk e => own_other el_nm o h.x eb (by rw [hk, e]))
  · exact (h.m y hy).kept C (fun l o2 k hk _ _ e => own_other el_en o2 o hk (by rw [eb, e]))
/-- What stays: two nodes in their boxes, messages. -/
structure Bk (W : World) (B : Nat) (r1 r2 : Nd) (L2 : List Mg) (q13 q15 : Nat) (V13 V15 : Sv) (s : S3) (X : List (Mg × S3)) : Prop where
  b : Rb W q13 (nc r2 V13)
  bd : ∃ T, Own5 W B r2 V13 T
  c : Rb W q15 (nc r1 V15)
  cd : ∃ T, Own5 W B r1 V15 T
  k : eM.Own W B (.slice s.a s.n s.c) X
  km : ∃ T, ∀ x ∈ X, Row eE W B T 1 x.2.v x.1.es
  kl : X.map (·.1) = L2
  h1 : B ≤ q13
  h2 : B ≤ q15
theorem Bk.kept {F : Nat → Prop} {W W' : World} {B : Nat} {r1 r2 : Nd} {L2 : List Mg} {q13 q15 : Nat} {V13 V15 : Sv} {s : S3} {X : List (Mg × S3)} (h : Bk W B r1 r2 L2 q13 q15 V13 V15 s X) (g : Chg F W W') (hF : ∀ k, B ≤ k → ¬ F k) : Bk W' B r1 r2 L2 q13 q15 V13 V15 s X := by
  obtain ⟨T1, o1⟩ := h.bd
  obtain ⟨T2, o2⟩ := h.cd
  obtain ⟨T3, o3⟩ := h.km
  exact ⟨h.b.kept g (hF _ h.h1), ⟨T1, o1.kept g (fun k hk _ => hF k hk)⟩, h.c.kept g (hF _ h.h2), ⟨T2, o2.kept g (fun k hk _ => hF k hk)⟩, h.k.kept g (fun k hk => hF k (h.k.lt k hk).1), ⟨T3, fun x hx => (o3 x hx).kept g (fun k _ hk _ => hF k hk)⟩, h.kl, h.h1, h.h2⟩
theorem Bk.grown {W W' : World} {B : Nat} {r1 r2 : Nd} {L2 : List Mg} {q13 q15 : Nat} {V13 V15 : Sv} {s : S3} {X : List (Mg × S3)} (h : Bk W B r1 r2 L2 q13 q15 V13 V15 s X) (g : W.grownBy W' none) : Bk W' B r1 r2 L2 q13 q15 V13 V15 s X := h.kept (F := fun _ => False) (Chg.of g (by simp)) (fun _ _ => id)
theorem Own5.low {w : World} {base base' : Nat} {r : Nd} {V : Sv} {T : Nat → Nat} (h : Own5 w base r V T) (hb : base' ≤ base) : Own5 w base' r V T := ⟨h.c.low hb, h.e.low hb, h.v.low hb, h.n.low hb, h.m.low hb⟩
end Go.Proofs.Ytdpcebaggldaiaa
namespace Go.Proofs.Ytdpcebaggldaiaa
open Go.RowKit
set_option linter.unusedVariables false
theorem load_row_on {P : Program} {ops : Array Oper} {rest : List Oper} {d : Option Tmp} {ty ty' : TypeId} {x : Operand} {ps : String} {af : Array Edge} {gd : Option (Nat × Bool)} {a : Act} {w : World} {Q : Exit → Act → World → Prop}
    (q o : Nat) (cs : List Value) (t : TypeDesc) (hw : Region.wanted ⟨d, .load ty x, ty', ps, af, gd⟩ (yielded ops a.tmps) = true) (hx : a.eval x = .pointer (some ⟨q, o, none⟩)) (hr : w.rangeAt q o cs) (hu : P.underlying ty = some t) (hd : t.isRow = true) (hi : (P.info? ty).map (·.size) = some cs.length)
    (h : wpList P ops Q rest (a.put d (.agg cs.toArray)) w) : wpList P ops Q (⟨d, .load ty x, ty', ps, af, gd⟩ :: rest) a w := by
  have h0 : wpList P ops Q (⟨d, .load ty x, ty', ps, af, none⟩ :: rest) a w := load_row (ps := ps) (af := af) (ty' := ty') q o cs t hx hr hu hd hi h
  unfold wpList at h0 ⊢
  rw [if_pos hw]
  have h1 : Region.wanted ⟨d, .load ty x, ty', ps, af, none⟩ (yielded ops a.tmps) = true := rfl
  rw [if_pos h1] at h0
  exact h0
end Go.Proofs.Ytdpcebaggldaiaa
