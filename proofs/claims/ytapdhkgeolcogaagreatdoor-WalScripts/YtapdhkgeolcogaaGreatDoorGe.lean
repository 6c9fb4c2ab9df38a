/- Bytes that the call itself gathers: a slice of its own, what is appended to it, and that it is read as bytes. -/
import Derived.Test.YtapdhkgeolcogaaGreatDoorGd
import Derived.Laws.AppendOwnNone
import Derived.Maps.AppendAt
namespace Go.Proofs.YtapdhkgeolcogaaGreatDoor.Cd
open Go.RowKit

theorem info5 : (Tryz.prog.info? 5).map (fun i => (i.zero, i.size, i.bytes)) = some (some (.int .u8 0), 1, 1) := by kernel_rfl

/-- The slice v is the call's own, from block 'base' on, and holds the bytes l. -/
structure Own (w : World) (base : Nat) (v : Value) (l : List Int) : Prop where
  row : w.ownsRow base 5 1 v l.length (l.map (Value.int .u8))
  bytes : Crc.Bytes l

theorem Own.grown {w w' : World} {base : Nat} {v : Value} {l : List Int} {row : Option Nat} (h : Own w base v l) (g : w.grownBy w' row) (hne : v.ownBlock = none ∨ v.ownBlock ≠ row) : Own w' base v l :=
  ⟨h.row.kept g hne, h.bytes⟩

theorem Own.rd {w : World} {base : Nat} {v : Value} {l : List Int} (h : Own w base v l) (hl : l.length ≤ 9223372036854775807) : Rd w v l := by
  refine ⟨h.bytes, hl, ?_⟩
  rcases h.row.2 with ⟨rfl, h0⟩ | ⟨g, cap, cur, rfl, hg, hh, h1, h2, h3, h4⟩
  · exact .inl ⟨List.eq_nil_of_length_eq_zero h0, .inl rfl⟩
  · refine .inr ⟨g, 0, cap, rfl, fun i hi => ?_⟩
    have hc := h.row.cells (g := g) rfl (j := i) (u := .int .u8 (l.getD i 0)) (by simp [hi])
    rwa [Addr.add_lit] at hc

theorem Own.block {w : World} {base : Nat} {v : Value} {l : List Int} (h : Own w base v l) {k : Nat} (hk : k < base) : v.ownBlock ≠ some k := fun e => by
  have := (h.row.lt k e).1
  omega

/-- 'append(v, x...)', v the call's own, x any bytes. -/
theorem wpList_append_rd {w : World} {ops : Array Oper} {rest : List Oper} {o : Oper} {a : Act} {Q : Exit → Act → World → Prop} (hgd : o.guard = none) (s x : Operand)
    (ho : o.op = .call { callee := .builtin .append, args := #[s, x], argTypes := #[39, 39] })
    (base : Nat) (v : Value) (l0 : List Int) (hs : a.eval s = v) (hown : Own w base v l0) (X : Value) (l : List Int) (hx : a.eval x = X) (hX : Rd w X l)
    (hb : l0.length + l.length ≤ 140737488351232) (hbase : base ≤ w.heap.size)
    (h : ∀ v' w', Own w' base v' (l0 ++ l) → w.grownBy w' v.ownBlock → wpList Tryz.prog ops Q rest (a.put o.dst v') w') : wpList Tryz.prog ops Q (o :: rest) a w := by
  obtain ⟨i, hi, hz0, hz1, hz2⟩ := info_parts info5
  have cells : ∀ ad m c (hl : l.length = m) (_ : X = .slice (some ad) m c) (hc : ∀ j u, (l.map (Value.int .u8))[j]? = some u → w.cell? (ad.add j) = some u), wpList Tryz.prog ops Q (o :: rest) a w := by
    intro ad m c hl e hc
    subst hl
    refine wpList_append_own w hgd s x 39 ho base 5 i (.int .u8 0) 1 1 Tryz.underlying39 hi hz0 hz1 hz2 rfl (by decide) v l0.length (l0.map (Value.int .u8)) hs hown.row ad l.length c (l.map (Value.int .u8)) (hx.trans e) (by simp) hc ?_ ?_ (by omega) hbase ?_
    · intro u hu
      obtain ⟨z, _, rfl⟩ := List.mem_map.mp hu
      rfl
    · unfold maxLen; omega
    · intro v' w' hown' hg _
      refine h v' w' ⟨?_, hown.bytes.append hX.bytes⟩ hg
      simpa using hown'
  rcases hX.val with ⟨rfl, e | ⟨ad, cap, e⟩⟩ | ⟨b, off, cap, e, hc⟩
  · refine wpList_append_own_none hgd s x 39 ho base 5 i 1 Tryz.underlying39 hi v l0.length (l0.map (Value.int .u8)) hs hown.row (hx.trans e) ?_
    exact h v w (by simpa using hown) (grown_refl _ _)
  · exact cells ad 0 cap rfl e (by simp)
  · refine cells ⟨b, off, none⟩ l.length cap rfl e fun j u hu => ?_
    rw [List.getElem?_map] at hu
    by_cases hj : j < l.length
    · have := hc j hj
      simp [hj] at hu
      subst hu
      rw [Addr.add_lit, this]
      simp [hj]
    · simp [hj] at hu

theorem own_empty (w : World) (n : Nat) (hn : n = w.heap.size) : Own (w.alloc (.cells #[] 5)) n (.slice (some ⟨n, 0, none⟩) 0 0) [] := by
  subst hn
  exact ⟨World.ownsRow_made w #[] 0 (Nat.le_refl _) (by unfold maxLen; omega) (by simp), fun _ h => by cases h⟩

/-- Bytes that lie in a world are read so in every later one in which nothing old has turned. -/
theorem Rd.below {w w' : World} {v : Value} {l : List Int} (h : Rd w v l) (hb : Below w.heap.size w w') : Rd w' v l := by
  refine ⟨h.bytes, h.len, ?_⟩
  rcases h.val with hn | ⟨b, off, cap, rfl, hc⟩
  · exact .inl hn
  · exact .inr ⟨b, off, cap, rfl, fun i hi => (hb.cell (World.block_lt_of_cell? w _ (hc i hi))).trans (hc i hi)⟩

theorem Own.below {w w' : World} {B base : Nat} {v : Value} {l : List Int} {W : World} (h : Own w base v l) (hB : Below B W w) (hs : B ≤ w.heap.size) (hb : B ≤ base) (g : w.grownBy w' v.ownBlock) : Below B W w' :=
  hB.grown g hs (fun k e => by have := (h.row.lt k e).1; omega)

theorem slice_of_rd {w : World} {v : Value} {l : List Int} (h : Rd w v l) : ∃ a c, v = .slice a l.length c := by
  rcases h.val with ⟨rfl, rfl | ⟨a, c, rfl⟩⟩ | ⟨b, off, c, rfl, _⟩ <;> exact ⟨_, _, rfl⟩

theorem Fresh.own {w w' : World} {b base : Nat} {v : Value} {l : List Int} (h : Fresh w b) (ho : Own w base v l) (hb : b < base) (g : w.grownBy w' v.ownBlock) : Fresh w' b :=
  h.grown g (fun e => ho.block hb e.symm)

/-- The first asking, over bytes that were there ahead of the table. -/
theorem more_first_old (tb : Nat) (s : Nat) (hs : s < 4294967296) (v : Value) (l : List Int) (w0 w : World) (hv : Rd w0 v l) (hB : Below w0.heap.size w0 w) (htb : w0.heap.size ≤ tb) (h : Fresh w tb) :
    Calls Tryz.prog 103 #[.pointer (some ⟨tb, 0, none⟩), .int .u32 s, v] w fun e w' => e = .returned (.int .u32 (Crc.more s l : Nat)) ∧ Made w w' tb :=
  more_rd tb s hs v l w _ (hv.below hB) (ask_first tb w h) fun _ h1 => ⟨h1.ready, hv.below (hB.trans (made_below h1 htb hB.size))⟩

theorem sum_first_old (tb : Nat) (v : Value) (l : List Int) (w0 w : World) (hv : Rd w0 v l) (hB : Below w0.heap.size w0 w) (htb : w0.heap.size ≤ tb) (h : Fresh w tb) :
    Calls Tryz.prog 79 #[.pointer (some ⟨tb, 0, none⟩), v] w fun e w' => e = .returned (.int .u32 (Crc.more 0 l : Nat)) ∧ Made w w' tb :=
  sum_of tb v l w _ (more_first_old tb 0 (by decide) v l w0 w hv hB htb h)
end Go.Proofs.YtapdhkgeolcogaaGreatDoor.Cd
