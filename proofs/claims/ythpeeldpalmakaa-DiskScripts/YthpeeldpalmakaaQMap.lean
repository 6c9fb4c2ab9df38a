/- The map of a disk's files: looked up, put into, struck from, gone through. -/
import Derived.Test.YthpeeldpalmakaaQRow
import Derived.StringKeys
namespace Go.Proofs.Ythpeeldpalmakaa
open Go.RowKit
set_option linter.unusedVariables false
set_option maxRecDepth 10000

theorem mapLaw : Maps.Keyed Try.prog 9 := Maps.string_keyed Try.underlying9
/-- A pointer to a file, as a number. -/
def pE (v : Value) : Option (DataW Unit × List MemPlace) := match v with
  | .pointer none => some (.lit (.int .i64 (-1)), [])
  | .pointer (some ⟨b, 0, none⟩) => some (.lit (.int .i64 b), [])
  | _ => none
theorem pE_some (b : Nat) : pE (.pointer (some ⟨b, 0, none⟩)) = some (.lit (.int .i64 b), []) := rfl
theorem pE_inv {v : Value} {y : DataW Unit × List MemPlace} (h : pE v = some y) : (v = .pointer none ∧ y = (.lit (.int .i64 (-1)), [])) ∨ ∃ b : Nat, v = .pointer (some ⟨b, 0, none⟩) ∧ y = (.lit (.int .i64 b), []) := by
  unfold pE at h
  split at h
  · injection h with h; exact .inl ⟨rfl, h.symm⟩
  · injection h with h; exact .inr ⟨_, rfl, h.symm⟩
  · cases h
theorem lit_inj {a b : Int} (h : (DataW.lit (.int .i64 a) : DataW Unit) = .lit (.int .i64 b)) : a = b := by injection h with h; injection h
theorem bytes_eta (s : ByteArray) : (⟨s.data.toList.toArray⟩ : ByteArray) = s := by cases s; simp
theorem keyS {s : ByteArray} (h : s.size ≤ 140737488351232) : keyOf Try.prog 9 (.string s) = some (.string s.data.toList) := by
  apply WideMaps.keyOf_string_mk Try.underlying9
  unfold maxLen
  omega
theorem litS {s : ByteArray} (h : s.size ≤ 140737488351232) : WideAt.IsKeyLit (.string s.data.toList) := mapLaw.key (keyS h)
theorem litL {l : List UInt8} (h : l.length ≤ 16) : WideAt.IsKeyLit (.string l) := by
  have := litS (s := ⟨l.toArray⟩) (by show l.toArray.size ≤ _; simp; omega)
  simpa using this
theorem strL_ne {a b : List UInt8} (h : a ≠ b) : (Lit.string a) ≠ .string b := fun e => h (by injection e)
theorem same_str (a b : List UInt8) (h : a.length ≤ 16) : (Lit.string a).sameKey (.string b) = (a == b) := by
  by_cases e : a = b
  · subst e; rw [WideAt.sameKey_self (litL h)]; simp
  · rw [Maps.sameKey_ne (strL_ne e)]
    have : (a == b) = false := by simpa using e
    rw [this]

/-- The datum D tells M. -/
structure TellsM (D : DataW Unit) (M : List (List UInt8 × Nat)) : Prop where
  has : ∀ nm, Maps.has D (.string nm) = M.any fun p => p.1 == nm
  at_ : ∀ p ∈ M, ∀ z, D.atKey (.string p.1) z = .lit (.int .i64 p.2)
  size : Maps.size D = M.length
  nd : (M.map (·.1)).Nodup
  short : ∀ p ∈ M, p.1.length ≤ 16
/-- The map in block bm: names and the blocks of their files. -/
def MapOf (w : World) (bm : Nat) (M : List (List UInt8 × Nat)) : Prop := ∃ D, w.ownsMap Try.prog 9 pE bm (Maps.size D) D ∧ TellsM D M
theorem MapOf.lt {w : World} {bm : Nat} {M : List (List UInt8 × Nat)} (h : MapOf w bm M) : bm < w.heap.size := by
  obtain ⟨D, h, _⟩ := h
  exact h.lt
theorem MapOf.kept {F : Nat → Prop} {w w' : World} {bm : Nat} {M : List (List UInt8 × Nat)} (h : MapOf w bm M) (g : Chg F w w') (hF : ¬ F bm) : MapOf w' bm M := by
  obtain ⟨D, h1, h2⟩ := h
  exact ⟨D, g.maps h1 hF, h2⟩
theorem MapOf.grown {w w' : World} {bm : Nat} {M : List (List UInt8 × Nat)} {row : Option Nat} (h : MapOf w bm M) (g : w.grownBy w' row) (hne : some bm ≠ row) : MapOf w' bm M := by
  obtain ⟨D, h1, h2⟩ := h
  exact ⟨D, h1.kept g hne, h2⟩
theorem mapOf_new (w : World) : MapOf (w.alloc (Obj.map #[] 0)) w.heap.size [] := ⟨.map [], World.ownsMap_made w _ _ _, ⟨fun _ => rfl, by simp, rfl, by simp, by simp⟩⟩
section
variable {w : World} {bm : Nat} {M : List (List UInt8 × Nat)}
theorem any_nm {nm : List UInt8} : (M.any fun p => p.1 == nm) = true ↔ ∃ f, (nm, f) ∈ M := by
  rw [List.any_eq_true]
  constructor
  · rintro ⟨p, hp, h⟩
    have : p.1 = nm := by simpa using h
    exact ⟨p.2, by rw [← this]; exact hp⟩
  · rintro ⟨f, hf⟩
    exact ⟨_, hf, by simp⟩
theorem MapOf.look_yes (h : MapOf w bm M) {s : ByteArray} (hs : s.size ≤ 140737488351232) {f : Nat} (hf : (s.data.toList, f) ∈ M) (W : World) (g : w.grownBy W none) :
    (Instr.lookup 46 (.map (some bm)) (.string s) true).run Try.prog W = .ok (.tuple #[.pointer (some ⟨f, 0, none⟩), .bool true]) W := by
  obtain ⟨D, h1, T⟩ := h.grown g (by simp)
  obtain ⟨v, ps, hr, hv⟩ := h1.look_ok mapLaw Try.underlying46 (Try.zeroValue52 W) (zd := .lit (.int .i64 (-1))) (zp := []) rfl (keyS hs)
  rw [hr, T.has, any_nm.2 ⟨f, hf⟩]
  rw [T.at_ _ hf] at hv
  rcases pE_inv hv with ⟨rfl, e⟩ | ⟨b, rfl, e⟩
  · have := lit_inj (congrArg Prod.fst e); omega
  · have := lit_inj (congrArg Prod.fst e)
    have : f = b := by omega
    rw [this]
theorem MapOf.look_no (h : MapOf w bm M) {s : ByteArray} (hs : s.size ≤ 140737488351232) (hf : (M.any fun p => p.1 == s.data.toList) = false) (W : World) (g : w.grownBy W none) :
    (Instr.lookup 46 (.map (some bm)) (.string s) true).run Try.prog W = .ok (.tuple #[.pointer none, .bool false]) W := by
  obtain ⟨D, h1, T⟩ := h.grown g (by simp)
  obtain ⟨v, ps, hr, hv⟩ := h1.look_ok mapLaw Try.underlying46 (Try.zeroValue52 W) (zd := .lit (.int .i64 (-1))) (zp := []) rfl (keyS hs)
  have hh : Maps.has D (.string s.data.toList) = false := by rw [T.has, hf]
  rw [hr, hh]
  rw [Maps.atKey_of_not_has hh] at hv
  rcases pE_inv hv with ⟨rfl, e⟩ | ⟨b, rfl, e⟩
  · rfl
  · have := lit_inj (congrArg Prod.fst e); omega
theorem TellsM.put {D : DataW Unit} (T : TellsM D M) (h : Maps.Tidy D) {nm : List UInt8} (hl : nm.length ≤ 16) (hn : (M.any fun p => p.1 == nm) = false) (f : Nat) : TellsM (D.put (.string nm) (.lit (.int .i64 f))) (M ++ [(nm, f)]) := by
  have hh : Maps.has D (.string nm) = false := by rw [T.has, hn]
  have hne : ∀ p ∈ M, p.1 ≠ nm := fun p hp e => by
    have := any_nm.2 ⟨p.2, show (nm, p.2) ∈ M by rw [← e]; exact hp⟩
    rw [hn] at this
    cases this
  refine ⟨fun x => ?_, fun p hp z => ?_, ?_, ?_, fun p hp => ?_⟩
  · rw [List.any_append]
    by_cases e : x = nm
    · rw [e, Maps.has_put_same h.isMap (litL hl)]; simp
    · rw [Maps.has_put_other (strL_ne e), T.has]
      have : ¬ nm = x := fun c => e c.symm
      simp [this]
  · rcases List.mem_append.1 hp with e | e
    · rw [Maps.atKey_put_other (strL_ne (hne p e)), T.at_ p e]
    · simp at e
      subst e
      rw [Maps.atKey_put_same h.isMap (litL hl)]
  · rw [Maps.size_put h, hh, T.size]
    simp
  · rw [List.map_append, List.nodup_append]
    refine ⟨T.nd, by simp, fun a ha c hc => ?_⟩
    obtain ⟨p, hp, rfl⟩ := List.mem_map.1 ha
    simp at hc
    rw [hc]
    exact hne p hp
  · rcases List.mem_append.1 hp with e | e
    · exact T.short p e
    · simp at e
      subst e
      exact hl
theorem TellsM.del {D : DataW Unit} (T : TellsM D M) (h : Maps.Tidy D) {nm : List UInt8} {f : Nat} (hf : (nm, f) ∈ M) : TellsM (D.del (.string nm)) (M.filter fun p => p.1 != nm) := by
  refine ⟨fun x => ?_, fun p hp z => ?_, ?_, T.nd.sublist (List.filter_sublist.map _), fun p hp => T.short p ((List.mem_filter.1 hp).1)⟩
  · by_cases e : x = nm
    · rw [e, Maps.has_del_same]
      symm
      rw [List.any_eq_false]
      intro p hp
      simpa using (List.mem_filter.1 hp).2
    · rw [Maps.has_del_other (strL_ne e), T.has, Bool.eq_iff_iff, List.any_eq_true, List.any_eq_true]
      constructor
      · rintro ⟨p, hp, c⟩
        have : p.1 = x := by simpa using c
        exact ⟨p, List.mem_filter.2 ⟨hp, by simpa using fun d => e (by rw [← this]; exact d)⟩, c⟩
      · rintro ⟨p, hp, c⟩
        exact ⟨p, (List.mem_filter.1 hp).1, c⟩
  · obtain ⟨h1, h2⟩ := List.mem_filter.1 hp
    rw [Maps.atKey_del_other (strL_ne (by simpa using h2)), T.at_ p h1]
  · have h1 := Maps.size_del (k := .string nm) h
    rw [T.has, any_nm.2 ⟨f, hf⟩, T.size] at h1
    obtain ⟨A, B, rfl⟩ := List.append_of_mem hf
    have nd := T.nd
    rw [List.map_append, List.map_cons, List.nodup_append, List.nodup_cons] at nd
    obtain ⟨n1, ⟨n2, n3⟩, n4⟩ := nd
    have eA : (A.filter fun p => p.1 != nm) = A := List.filter_eq_self.2 fun p hp => by
      simpa using fun d => n4 p.1 (List.mem_map.2 ⟨p, hp, rfl⟩) nm (by simp) d
    have eB : (B.filter fun p => p.1 != nm) = B := List.filter_eq_self.2 fun p hp => by
      simpa using fun d => n2 (List.mem_map.2 ⟨p, hp, d⟩)
    rw [List.filter_append, List.filter_cons, eA, eB]
    simp at *
    omega
end
/-- A range over the map under way: M's entries, those that are still to come. -/
def Rng (w : World) (bm r : Nat) (M rest : List (List UInt8 × Nat)) (cnt : Nat) : Prop :=
  ∃ D left, w.ranges Try.prog 9 pE bm r (Maps.size D) D left cnt ∧ TellsM D M ∧ rest = M.filter fun p => left (.string p.1)
theorem Rng.kept {w w' : World} {bm r : Nat} {M rest : List (List UInt8 × Nat)} {cnt : Nat} {row : Option Nat} (h : Rng w bm r M rest cnt) (g : w.grownBy w' row) (hb : some bm ≠ row) (hr : some r ≠ row) : Rng w' bm r M rest cnt := by
  obtain ⟨D, left, h1, h2⟩ := h
  exact ⟨D, left, h1.kept g hb hr, h2⟩
theorem Rng.chg {F : Nat → Prop} {w w' : World} {bm r : Nat} {M rest : List (List UInt8 × Nat)} {cnt : Nat} (h : Rng w bm r M rest cnt) (g : Chg F w w') (hb : ¬ F bm) (hr : ¬ F r) : Rng w' bm r M rest cnt := by
  obtain ⟨D, left, h1, h2⟩ := h
  have l1 := h1.owns.lt
  have l2 := h1.lt
  refine ⟨D, left, ?_, h2⟩
  obtain ⟨es, clock, since, seen, c0, e1, F0, e2, e3, e4, e5⟩ := h1
  exact ⟨es, clock, since, seen, c0, (g.block bm l1 hb).trans e1, F0, e2, e3, (g.block r l2 hr).trans e4, e5⟩
theorem Rng.left {w : World} {bm r : Nat} {M rest : List (List UInt8 × Nat)} {cnt : Nat} (h : Rng w bm r M rest cnt) : w.rangeLeft bm r = cnt := by
  obtain ⟨D, left, h1, _⟩ := h
  exact h1.left_eq
theorem Rng.lt {w : World} {bm r : Nat} {M rest : List (List UInt8 × Nat)} {cnt : Nat} (h : Rng w bm r M rest cnt) : bm < w.heap.size ∧ r < w.heap.size ∧ r ≠ bm := by
  obtain ⟨D, left, h1, _⟩ := h
  exact ⟨h1.owns.lt, h1.lt, h1.ne⟩
theorem Rng.sub {w : World} {bm r : Nat} {M rest : List (List UInt8 × Nat)} {cnt : Nat} (h : Rng w bm r M rest cnt) : rest.Sublist M := by
  obtain ⟨D, left, h1, _, rfl⟩ := h
  exact List.filter_sublist
section
variable (w : World) {ops : Array Oper} {rest : List Oper} {o : Oper} {a : Act} {Q : Exit → Act → World → Prop}
/-- 'range m'. -/
theorem wpList_range_M (hg : o.guard = none) (m : Operand) (hop : o.op = Op.range 46 m) {bm : Nat} {M : List (List UInt8 × Nat)} (hm : a.eval m = .map (some bm)) (h : MapOf w bm M)
    (hK : ∀ w' cnt, Rng w' bm w.heap.size M M cnt → w.grownBy w' none → w'.heap.size = w.heap.size + 1 → wpList Try.prog ops Q rest (a.put o.dst (.pointer (some ⟨w.heap.size, 0, none⟩))) w') : wpList Try.prog ops Q (o :: rest) a w := by
  obtain ⟨D, h1, T⟩ := h
  refine wpList_range_own w hg m 46 hop 9 52 mapLaw Try.underlying46 pE bm _ D hm h1 fun w' hr hgr hs => hK w' _ ⟨D, _, hr, T, ?_⟩ hgr hs
  symm
  rw [List.filter_eq_self]
  intro p hp
  rw [T.has]
  exact any_nm.2 ⟨p.2, hp⟩
/-- The range's step. -/
theorem wpList_next_M (hg : o.guard = none) (it : Operand) (hop : o.op = Op.next it false) {bm r cnt : Nat} {M R : List (List UInt8 × Nat)} (hit : a.eval it = .pointer (some ⟨r, 0, none⟩)) (h : Rng w bm r M R cnt)
    (hDone : R = [] → wpList Try.prog ops Q rest (a.put o.dst (.tuple #[.bool false])) w)
    (hMore : ∀ (nm : List UInt8) (f : Nat) (R' : List (List UInt8 × Nat)) (w' : World) (cnt' : Nat), (nm, f) ∈ M → R.Perm ((nm, f) :: R') → (∀ q ∈ R', q.1 ≠ nm) → Rng w' bm r M R' cnt' → cnt' < cnt → w.grownBy w' (some r) → w'.heap.size = w.heap.size →
      (Instr.entry (.pointer (some ⟨r, 0, none⟩))).run Try.prog w' = .ok (.tuple #[.string ⟨nm.toArray⟩, .pointer (some ⟨f, 0, none⟩)]) w' → wpList Try.prog ops Q rest (a.put o.dst (.tuple #[.bool true, .string ⟨nm.toArray⟩, .pointer (some ⟨f, 0, none⟩)])) w') : wpList Try.prog ops Q (o :: rest) a w := by
  obtain ⟨D, left, h1, T, hR⟩ := h
  refine wpList_next_ranges (α := List UInt8) (β := Option Nat) w hg it hop 9 mapLaw pE (fun l => .string ⟨l.toArray⟩) (fun x => .pointer (x.map fun b => ⟨b, 0, none⟩)) ?_ ?_ bm r _ D left cnt hit h1 ?_ ?_
  · intro key kl hk
    obtain ⟨s, rfl⟩ := Maps.keyOf_string_inv Try.underlying9 hk
    exact ⟨s.data.toList, by rw [bytes_eta]⟩
  · intro v y hv
    rcases pE_inv hv with ⟨rfl, _⟩ | ⟨b, rfl, _⟩
    · exact ⟨none, rfl⟩
    · exact ⟨some b, rfl⟩
  · intro _ hl
    refine hDone ?_
    rw [hR, List.filter_eq_nil_iff]
    intro p _
    simp [hl]
  · intro nm x kl y w' cnt' hkey hlk hv hat hrg hlt hgr hsz hen
    have hkl : kl = .string nm := by
      simp [keyOf, Try.underlying9, mapKey] at hkey
      exact hkey.2.symm
    subst hkl
    -- the key is one of M's
    have hmem : ∃ f, (nm, f) ∈ M := by
      rw [← any_nm, ← T.has]
      obtain ⟨es, clock, since, seen, c0, e1, F0, e2, e3, e4, e5, e6, e7, e8, _⟩ := h1
      obtain ⟨z, hz, hzk⟩ := e8 _ hlk
      rw [e3]
      obtain ⟨yy, hyy⟩ := F0.reads z hz
      exact List.any_eq_true.2 ⟨WideElems.rg Try.prog 9 pE z, mem_sorted.2 (List.mem_map.2 ⟨z, hz, rfl⟩), by rw [hzk]; exact WideAt.sameKey_self (mapLaw.key hkey)⟩
    obtain ⟨f, hf⟩ := hmem
    have hx : x = some f := by
      have h2 := hat (.lit (.int .i64 0))
      rw [T.at_ _ hf] at h2
      rcases pE_inv hv with ⟨ev, rfl⟩ | ⟨b, ev, rfl⟩
      · have := lit_inj h2; omega
      · have h2 := lit_inj h2
        cases x with
        | none => cases ev
        | some c => injection ev with ev; injection ev with ev; injection ev with ev; rw [ev, show f = b by omega]
    subst hx
    have hshort : ∀ q ∈ M, q.1.length ≤ 16 := T.short
    have hR' : (M.filter fun p => (fun z => left z && !z.sameKey (.string nm)) (.string p.1)) = R.filter fun p => p.1 != nm := by
      rw [hR, List.filter_filter]
      refine List.filter_congr fun p hp => ?_
      show (left _ && !(Lit.string p.1).sameKey (.string nm)) = _
      rw [same_str _ _ (hshort p hp)]
      cases left (.string p.1) <;> cases hc : (p.1 == nm) <;> simp_all
    refine hMore nm f (R.filter fun p => p.1 != nm) w' cnt' hf ?_ (fun q hq => by simpa using (List.mem_filter.1 hq).2) ⟨D, _, hrg, T, hR'.symm⟩ hlt hgr hsz hen
    -- R is that entry and the rest
    have hin : (nm, f) ∈ R := by rw [hR]; exact List.mem_filter.2 ⟨hf, hlk⟩
    have nd : (R.map (·.1)).Nodup := T.nd.sublist (by rw [hR]; exact List.filter_sublist.map _)
    obtain ⟨A, B, e⟩ := List.append_of_mem hin
    rw [e] at nd ⊢
    rw [List.map_append, List.map_cons, List.nodup_append, List.nodup_cons] at nd
    obtain ⟨n1, ⟨n2, n3⟩, n4⟩ := nd
    have eA : (A.filter fun p => p.1 != nm) = A := List.filter_eq_self.2 fun p hp => by
      simpa using fun d => n4 p.1 (List.mem_map.2 ⟨p, hp, rfl⟩) nm (by simp) d
    have eB : (B.filter fun p => p.1 != nm) = B := List.filter_eq_self.2 fun p hp => by
      simpa using fun d => n2 (List.mem_map.2 ⟨p, hp, d⟩)
    rw [List.filter_append, List.filter_cons, eA, eB]
    simp only [bne_self_eq_false, Bool.false_eq_true, if_false]
    exact List.perm_middle
end
end Go.Proofs.Ythpeeldpalmakaa
