/- The reference's wheel in memory; parts of its list. -/
import Derived.Test.YtijgekdhjfbgkaaWStepM
namespace Go.Proofs.Ytijgekdhjfbgkaa
open Go.RowKit Go.Sort Whl
set_option linter.unusedVariables false

theorem cells_take : ∀ (l : List It) (k : Nat), cells (l.take k) = (cells l).take (k * 2)
  | [], k => by simp [cells_nil]
  | a :: l, 0 => by simp [cells_nil]
  | a :: l, k + 1 => by
    rw [List.take_succ_cons, cells_cons, cells_cons, show (k + 1) * 2 = k * 2 + 1 + 1 by omega, List.take_succ_cons, List.take_succ_cons, cells_take l k]
theorem cells_drop : ∀ (l : List It) (k : Nat), cells (l.drop k) = (cells l).drop (k * 2)
  | [], k => by simp [cells_nil]
  | a :: l, 0 => by simp
  | a :: l, k + 1 => by
    rw [List.drop_succ_cons, cells_cons, show (k + 1) * 2 = k * 2 + 1 + 1 by omega, List.drop_succ_cons, List.drop_succ_cons, cells_drop l k]
/-- The slice u reads as the items l. -/
def Rx (w : World) (u : Value) (l : List It) : Prop := (u = .slice none 0 0 ∧ l = []) ∨ ∃ g off c, u = .slice (some ⟨g, off, none⟩) l.length c ∧ ∀ t x, (cells l)[t]? = some x → w.cell? ⟨g, off + t, none⟩ = some x
theorem Rx.kept {F : Nat → Prop} {w w' : World} {v : Value} {l : List It} (h : Rx w v l) (g : Chg F w w') (hF : ∀ k, v.ownBlock = some k → ¬ F k) : Rx w' v l := by
  rcases h with h | ⟨b, off, c, rfl, h1⟩
  · exact .inl h
  · exact .inr ⟨b, off, c, rfl, fun t x hx => g.cell (h1 t x hx) (hF b rfl)⟩
theorem Rx.grown {w w' : World} {v : Value} {l : List It} (h : Rx w v l) (g : w.grownBy w' none) : Rx w' v l := h.kept (F := fun _ => False) (Chg.of g (by simp)) (fun _ _ => id)
theorem Rx.of_own {w : World} {base : Nat} {v : Value} {l : List It} (h : w.ownsRow base 33 2 v l.length (cells l)) : Rx w v l := by
  rcases h.2 with ⟨e, h0⟩ | ⟨g, cap, cur, e, hg, hh, h1, h2, h3, h4⟩
  · exact .inl ⟨e, List.eq_nil_of_length_eq_zero h0⟩
  · refine .inr ⟨g, 0, cap, e, fun t x hx => ?_⟩
    have := h.cells (g := g) (by rw [e]; rfl) t x hx
    rw [Addr.add_lit] at this
    exact this
theorem own_from {w : World} {base : Nat} {v : Value} {L : List It} (h : w.ownsRow base 33 2 v L.length (cells L)) {k : Nat} (hk : k ≤ L.length) :
    ∃ u, (∀ W, (Instr.sliceAt 29 v (some (.int .i64 (k : Int))) none none).run Try.prog W = .ok u W) ∧ Rx w u (L.drop k) ∧ (∀ b, u.ownBlock = some b → v.ownBlock = some b) := by
  have ht : Try.prog.underlying 29 = some (.slice (Try.prog.elem 29)) := by kernel_rfl
  have e2 : Try.prog.elem 29 = 33 := by kernel_rfl
  have run : ∀ a n c W, k ≤ n → (Instr.sliceAt 29 (.slice a n c) (some (.int .i64 (k : Int))) none none).run Try.prog W = .ok (sliced a k n c 2) W := fun a n c W hn => by
    rw [run_sliceAt_slice W 29 _ _ _ _ ht, run_slice_l W 29 a n c ht .i64 (k : Int) (by omega) (by omega), e2, Try.sizeOf33 W]
    show Result.ok (sliced a (k : Int).toNat n c 2) W = _
    rw [Int.toNat_natCast]
  rcases h.2 with ⟨e, h0⟩ | ⟨g, cap, cur, e, hg, hh, h1, h2, h3, h4⟩
  · have hL : L = [] := List.eq_nil_of_length_eq_zero h0
    subst hL
    have hk0 : k = 0 := by simpa using hk
    subst hk0
    refine ⟨.slice none 0 0, fun W => ?_, .inl ⟨rfl, rfl⟩, fun b hb => by cases hb⟩
    rw [e, run none 0 0 W (by omega)]
    rfl
  · have cellAt : ∀ t x, (cells (L.drop k))[t]? = some x → w.cell? ⟨g, k * 2 + t, none⟩ = some x := fun t x hx => by
      rw [cells_drop, List.getElem?_drop] at hx
      have := h.cells (g := g) (by rw [e]; rfl) (k * 2 + t) x hx
      rw [Addr.add_lit, Nat.zero_add] at this
      exact this
    by_cases hc : cap = k
    · have hd : L.drop k = [] := List.drop_eq_nil_of_le (by omega)
      refine ⟨.slice (some ⟨g, 0, none⟩) 0 0, fun W => ?_, .inr ⟨g, 0, 0, by rw [hd]; rfl, fun t x hx => by rw [hd] at hx; simp [cells_nil] at hx⟩, fun b hb => by rw [e]; exact hb⟩
      rw [e, run _ _ _ W hk]
      unfold sliced
      rw [if_pos hc, show L.length - k = 0 by omega, show cap - k = 0 by omega]
    · refine ⟨.slice (some ⟨g, k * 2, none⟩) (L.drop k).length (cap - k), fun W => ?_, .inr ⟨g, k * 2, _, rfl, cellAt⟩, fun b hb => by rw [e]; exact hb⟩
      rw [e, run _ _ _ W hk]
      unfold sliced
      rw [if_neg hc, List.length_drop]
      show Result.ok (Value.slice (some ((⟨g, 0, none⟩ : Addr).add (k * 2))) _ _) W = _
      rw [Addr.add_lit, Nat.zero_add]
theorem own_upto {w : World} {base : Nat} {v : Value} {L : List It} (h : w.ownsRow base 33 2 v L.length (cells L)) {k : Nat} (hk : k ≤ L.length) :
    ∃ u, (∀ W, (Instr.sliceAt 29 v none (some (.int .i64 (k : Int))) none).run Try.prog W = .ok u W) ∧ w.ownsRow base 33 2 u (L.take k).length (cells (L.take k)) ∧ u.ownBlock = v.ownBlock := by
  have ht : Try.prog.underlying 29 = some (.slice (Try.prog.elem 29)) := by kernel_rfl
  have e2 : Try.prog.elem 29 = 33 := by kernel_rfl
  have run : ∀ a n c W, k ≤ c → (Instr.sliceAt 29 (.slice a n c) none (some (.int .i64 (k : Int))) none).run Try.prog W = .ok (sliced a 0 k c 2) W := fun a n c W hn => by
    rw [run_sliceAt_slice W 29 _ _ _ _ ht, run_slice_h W 29 a n c ht .i64 (k : Int) (by omega) (by omega), e2, Try.sizeOf33 W]
    show Result.ok (sliced a 0 (k : Int).toNat c 2) W = _
    rw [Int.toNat_natCast]
  have hlen : (L.take k).length = k := by rw [List.length_take]; omega
  rcases h.2 with ⟨e, h0⟩ | ⟨g, cap, cur, e, hg, hh, h1, h2, h3, h4⟩
  · have hL : L = [] := List.eq_nil_of_length_eq_zero h0
    subst hL
    have hk0 : k = 0 := by simpa using hk
    subst hk0
    refine ⟨.slice none 0 0, fun W => ?_, World.ownsRow_nil _ _ _ _, by rw [e]⟩
    rw [e, run none 0 0 W (by omega)]
    rfl
  · refine ⟨.slice (some ⟨g, 0, none⟩) k cap, fun W => ?_, ⟨by rw [cells_len], .inr ⟨g, cap, cur, by rw [hlen], hg, hh, by rw [hlen]; omega, h2, h3, ?_⟩⟩, by rw [e]; rfl⟩
    · rw [e, run _ _ _ W (by omega)]
      unfold sliced
      by_cases hc : cap = 0
      · rw [if_pos hc]; rfl
      · rw [if_neg hc]
        show Result.ok (Value.slice (some ((⟨g, 0, none⟩ : Addr).add (0 * 2))) _ _) W = _
        rw [Addr.add_lit]
        rfl
    · rw [hlen, cells_take, ← h4, List.take_take, Nat.min_eq_left (by omega)]
/-- 'append(v, x...)', v a slice of items of its own, x one that is read. -/
theorem wpList_append_rx {w : World} {ops : Array Oper} {rest : List Oper} {o : Oper} {a : Act} {Q : Exit → Act → World → Prop} (hgd : o.guard = none) (s x : Operand)
    (ho : o.op = .call { callee := .builtin .append, args := #[s, x], argTypes := #[29, 29] })
    (base : Nat) (V : Value) (l0 : List It) (hs : a.eval s = V) (hown : w.ownsRow base 33 2 V l0.length (cells l0)) (X : Value) (l : List It) (hx : a.eval x = X) (hX : Rx w X l)
    (hb : l0.length + l.length ≤ 100000) (hbase : base ≤ w.heap.size)
    (h : ∀ ad m c w', w'.ownsRow base 33 2 (.slice ad m c) (l0 ++ l).length (cells (l0 ++ l)) → w.grownBy w' V.ownBlock → ((Value.slice ad m c).ownBlock = V.ownBlock ∨ (Value.slice ad m c).ownBlock = some w.heap.size) → wpList Try.prog ops Q rest (a.put o.dst (.slice ad m c)) w') : wpList Try.prog ops Q (o :: rest) a w := by
  obtain ⟨ii, hi, hz0, hz1, hz2⟩ := info_parts info_item
  have form : ∀ {w' : World} {v' : Value} {n : Nat} {xs : List Value}, w'.ownsRow base 33 2 v' n xs → ∃ ad m c, v' = .slice ad m c := fun hO => by
    rcases hO.2 with ⟨e, _⟩ | ⟨g, cap, cur, e, _⟩
    · exact ⟨_, _, _, e⟩
    · exact ⟨_, _, _, e⟩
  rcases hX with ⟨e, h0⟩ | ⟨g, off, c, e, hc⟩
  · subst h0
    obtain ⟨ad0, m0, c0, rfl⟩ := form hown
    refine wpList_append_own_none hgd s x 29 ho base 33 ii 2 Try.underlying29 hi _ l0.length (cells l0) hs hown (hx.trans e) ?_
    exact h ad0 m0 c0 w (by simpa using hown) (grown_refl _ _) (.inl rfl)
  · refine wpList_append_own_at w hgd s x 29 ho base 33 ii (.agg #[.int .i64 0, .int .i64 0]) 2 16 Try.underlying29 hi hz0 hz1 hz2 rfl (by decide) _ l0.length (cells l0) hs hown ⟨g, off, none⟩ l.length c (cells l) (hx.trans e) (cells_len l) ?_ (cells_one l) (by unfold maxLen; omega) (by omega) hbase ?_
    · intro j u hu
      rw [Addr.add_lit]
      exact hc j u hu
    · intro v' w' hO hgr _ hl
      obtain ⟨ad, m, c, rfl⟩ := form hO
      exact h ad m c w' (by rw [cells_append, List.length_append]; exact hO) hgr hl
theorem wpList_from {ops : Array Oper} {rest : List Oper} {a : Act} {w : World} {Q : Exit → Act → World → Prop} {d : Option Tmp} {x y : Operand} {ty : TypeId} {p : String} {af : Array Edge} {V u : Value} {n : Int} (hx : a.eval x = V) (hy : a.eval y = .int .i64 n) (hs : ∀ W, (Instr.sliceAt 29 V (some (.int .i64 n)) none none).run Try.prog W = .ok u W)
    (h : wpList Try.prog ops Q rest (a.put d u) w) : wpList Try.prog ops Q (⟨d, .slice 29 x (some y) none none, ty, p, af, none⟩ :: rest) a w := by
  refine wpList_plain rfl fun K hK => ?_
  unfold Oper.wp execOp
  simp only [Option.map_some, Option.map_none, hx, hy, Sem.run_bind, Sem.run_pure, Result.andThen_ok, hs]
  exact hK _ _ h
theorem wpList_upto {ops : Array Oper} {rest : List Oper} {a : Act} {w : World} {Q : Exit → Act → World → Prop} {d : Option Tmp} {x y : Operand} {ty : TypeId} {p : String} {af : Array Edge} {V u : Value} {n : Int} (hx : a.eval x = V) (hy : a.eval y = .int .i64 n) (hs : ∀ W, (Instr.sliceAt 29 V none (some (.int .i64 n)) none).run Try.prog W = .ok u W)
    (h : wpList Try.prog ops Q rest (a.put d u) w) : wpList Try.prog ops Q (⟨d, .slice 29 x none (some y) none, ty, p, af, none⟩ :: rest) a w := by
  refine wpList_plain rfl fun K hK => ?_
  unfold Oper.wp execOp
  simp only [Option.map_some, Option.map_none, hx, hy, Sem.run_bind, Sem.run_pure, Result.andThen_ok, hs]
  exact hK _ _ h
theorem own_empty (w : World) (n : Nat) (hn : n = w.heap.size) : (w.alloc (.cells #[] 33)).ownsRow n 33 2 (.slice (some ⟨n, 0, none⟩) 0 0) ([] : List It).length (cells []) := by
  subst hn
  exact World.ownsRow_made w #[] 0 (Nat.le_refl _) (by unfold maxLen; omega) (by simp)
/-- The reference's wheel, in memory; its blocks lie in G. -/
structure RW (w : World) (q : Nat) (now : Int) (L : List It) (G : Nat → Prop) : Prop where
  ex : ∃ v, w.cell? ⟨q, 1, none⟩ = some v ∧ w.ownsRow 0 33 2 v L.length (cells L) ∧ v.ownBlock ≠ some q ∧ ∀ k, v.ownBlock = some k → G k
  c0 : w.cell? ⟨q, 0, none⟩ = some (.int .i64 now)
  fr : ∀ i, w.frozen? ⟨q, i, none⟩ = false
  gq : G q
  lt : ∀ k, G k → k < w.heap.size
theorem RW.kept {F G : Nat → Prop} {w w' : World} {q : Nat} {now : Int} {L : List It} (h : RW w q now L G) (g : Chg F w w') (hd : ∀ k, G k → ¬ F k) : RW w' q now L G := by
  obtain ⟨v, h1, h2, h3, h4⟩ := h.ex
  exact ⟨⟨v, g.cell h1 (hd q h.gq), g.owns h2 fun k hk => hd k (h4 k hk), h3, h4⟩, g.cell h.c0 (hd q h.gq), fun i => (g.frozen (a := ⟨q, i, none⟩) (h.lt q h.gq) (hd q h.gq)).trans (h.fr i), h.gq, fun k hk => Nat.lt_of_lt_of_le (h.lt k hk) g.size⟩
end Go.Proofs.Ytijgekdhjfbgkaa
