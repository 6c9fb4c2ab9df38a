/- The map of a disk's files: looked up, put into, struck from, gone through. A disk in memory. Which names files may have; a new disk; a file looked up. A new disk; a file looked up; Sync, Remove, size, Waiting. Remove; how many bytes all files have; how many writes wait. Read: a file's bytes, in new memory. -/
import Derived.Test.YtapdhkgeolcogaaGreatDoorGl
import Derived.StringKeys
namespace Go.Proofs.YtapdhkgeolcogaaGreatDoor
open Go.RowKit
set_option linter.unusedVariables false
set_option maxRecDepth 10000

theorem mapLaw : Maps.Keyed Tryz.prog 9 := Maps.string_keyed Tryz.underlying9
/-- A pointer to a file, as a number. -/
def pE (v : Value) : Option (DataW Unit × List MemPlace) := match v with
  | .pointer none => some (.lit (.int .i64 (-1)), [])
  | .pointer (some ⟨b, 0, none⟩) => some (.lit (.int .i64 b), [])
  | _ => none
theorem pE_some (b : Nat) : pE (.pointer (some ⟨b, 0, none⟩)) = some (.lit (.int .i64 b), []) := rfl
theorem pE_inv {v : Value} {y : DataW Unit × List MemPlace} (h : pE v = some y) : (v = .pointer none ∧ y = (.lit (.int .i64 (-1)), [])) ∨ ∃ b : Nat, v = .pointer (some ⟨b, 0, none⟩) ∧ y = (.lit (.int .i64 b), []) := by
  unfold pE at h
  split at h
  · injection h with h; exact .inl ⟨rfl, h.symm⟩
  · injection h with h; exact .inr ⟨_, rfl, h.symm⟩
  · cases h
theorem lit_inj {a b : Int} (h : (DataW.lit (.int .i64 a) : DataW Unit) = .lit (.int .i64 b)) : a = b := by injection h with h; injection h
theorem bytes_eta (s : ByteArray) : (⟨s.data.toList.toArray⟩ : ByteArray) = s := by cases s; simp
theorem keyS {s : ByteArray} (h : s.size ≤ 140737488351232) : keyOf Tryz.prog 9 (.string s) = some (.string s.data.toList) := by
  apply WideMaps.keyOf_string_mk Tryz.underlying9
  unfold maxLen
  omega
theorem litS {s : ByteArray} (h : s.size ≤ 140737488351232) : WideAt.IsKeyLit (.string s.data.toList) := mapLaw.key (keyS h)
theorem litL {l : List UInt8} (h : l.length ≤ 16) : WideAt.IsKeyLit (.string l) := by
  have := litS (s := ⟨l.toArray⟩) (by show l.toArray.size ≤ _; simp; omega)
  simpa using this
theorem strL_ne {a b : List UInt8} (h : a ≠ b) : (Lit.string a) ≠ .string b := fun e => h (by injection e)
theorem same_str (a b : List UInt8) (h : a.length ≤ 16) : (Lit.string a).sameKey (.string b) = (a == b) := by
  by_cases e : a = b
  · subst e; rw [WideAt.sameKey_self (litL h)]; simp
  · rw [Maps.sameKey_ne (strL_ne e)]
    have : (a == b) = false := by simpa using e
    rw [this]

/-- The datum D tells M. -/
structure TellsM (D : DataW Unit) (M : List (List UInt8 × Nat)) : Prop where
  has : ∀ nm, Maps.has D (.string nm) = M.any fun p => p.1 == nm
  at_ : ∀ p ∈ M, ∀ z, D.atKey (.string p.1) z = .lit (.int .i64 p.2)
  size : Maps.size D = M.length
  nd : (M.map (·.1)).Nodup
  short : ∀ p ∈ M, p.1.length ≤ 16
/-- The map in block bm: names and the blocks of their files. -/
def MapOf (w : World) (bm : Nat) (M : List (List UInt8 × Nat)) : Prop := ∃ D, w.ownsMap Tryz.prog 9 pE bm (Maps.size D) D ∧ TellsM D M
theorem MapOf.lt {w : World} {bm : Nat} {M : List (List UInt8 × Nat)} (h : MapOf w bm M) : bm < w.heap.size := by
  obtain ⟨D, h, _⟩ := h
  exact h.lt
theorem MapOf.kept {F : Nat → Prop} {w w' : World} {bm : Nat} {M : List (List UInt8 × Nat)} (h : MapOf w bm M) (g : Chg F w w') (hF : ¬ F bm) : MapOf w' bm M := by
  obtain ⟨D, h1, h2⟩ := h
  exact ⟨D, g.maps h1 hF, h2⟩
theorem MapOf.grown {w w' : World} {bm : Nat} {M : List (List UInt8 × Nat)} {row : Option Nat} (h : MapOf w bm M) (g : w.grownBy w' row) (hne : some bm ≠ row) : MapOf w' bm M := by
  obtain ⟨D, h1, h2⟩ := h
  exact ⟨D, h1.kept g hne, h2⟩
theorem mapOf_new (w : World) : MapOf (w.alloc (Obj.map #[] 0)) w.heap.size [] := ⟨.map [], World.ownsMap_made w _ _ _, ⟨fun _ => rfl, by simp, rfl, by simp, by simp⟩⟩
section
variable {w : World} {bm : Nat} {M : List (List UInt8 × Nat)}
theorem any_nm {nm : List UInt8} : (M.any fun p => p.1 == nm) = true ↔ ∃ f, (nm, f) ∈ M := by
  rw [List.any_eq_true]
  constructor
  · rintro ⟨p, hp, h⟩
    have : p.1 = nm := by simpa using h
    exact ⟨p.2, by rw [← this]; exact hp⟩
  · rintro ⟨f, hf⟩
    exact ⟨_, hf, by simp⟩
theorem MapOf.look_yes (h : MapOf w bm M) {s : ByteArray} (hs : s.size ≤ 140737488351232) {f : Nat} (hf : (s.data.toList, f) ∈ M) (W : World) (g : w.grownBy W none) :
    (Instr.lookup 64 (.map (some bm)) (.string s) true).run Tryz.prog W = .ok (.tuple #[.pointer (some ⟨f, 0, none⟩), .bool true]) W := by
  obtain ⟨D, h1, T⟩ := h.grown g (by simp)
  obtain ⟨v, ps, hr, hv⟩ := h1.look_ok mapLaw Tryz.underlying64 (Tryz.zeroValue83 W) (zd := .lit (.int .i64 (-1))) (zp := []) rfl (keyS hs)
  rw [hr, T.has, any_nm.2 ⟨f, hf⟩]
  rw [T.at_ _ hf] at hv
  rcases pE_inv hv with ⟨rfl, e⟩ | ⟨b, rfl, e⟩
  · have := lit_inj (congrArg Prod.fst e); omega
  · have := lit_inj (congrArg Prod.fst e)
    have : f = b := by omega
    rw [this]
theorem MapOf.look_no (h : MapOf w bm M) {s : ByteArray} (hs : s.size ≤ 140737488351232) (hf : (M.any fun p => p.1 == s.data.toList) = false) (W : World) (g : w.grownBy W none) :
    (Instr.lookup 64 (.map (some bm)) (.string s) true).run Tryz.prog W = .ok (.tuple #[.pointer none, .bool false]) W := by
  obtain ⟨D, h1, T⟩ := h.grown g (by simp)
  obtain ⟨v, ps, hr, hv⟩ := h1.look_ok mapLaw Tryz.underlying64 (Tryz.zeroValue83 W) (zd := .lit (.int .i64 (-1))) (zp := []) rfl (keyS hs)
  have hh : Maps.has D (.string s.data.toList) = false := by rw [T.has, hf]
  rw [hr, hh]
  rw [Maps.atKey_of_not_has hh] at hv
  rcases pE_inv hv with ⟨rfl, e⟩ | ⟨b, rfl, e⟩
  · rfl
  · have := lit_inj (congrArg Prod.fst e); omega
theorem TellsM.put {D : DataW Unit} (T : TellsM D M) (h : Maps.Tidy D) {nm : List UInt8} (hl : nm.length ≤ 16) (hn : (M.any fun p => p.1 == nm) = false) (f : Nat) : TellsM (D.put (.string nm) (.lit (.int .i64 f))) (M ++ [(nm, f)]) := by
  have hh : Maps.has D (.string nm) = false := by rw [T.has, hn]
  have hne : ∀ p ∈ M, p.1 ≠ nm := fun p hp e => by
    have := any_nm.2 ⟨p.2, show (nm, p.2) ∈ M by rw [← e]; exact hp⟩
    rw [hn] at this
    cases this
  refine ⟨fun x => ?_, fun p hp z => ?_, ?_, ?_, fun p hp => ?_⟩
  · rw [List.any_append]
    by_cases e : x = nm
    · rw [e, Maps.has_put_same h.isMap (litL hl)]; simp
    · rw [Maps.has_put_other (strL_ne e), T.has]
      have : ¬ nm = x := fun c => e c.symm
      simp [this]
  · rcases List.mem_append.1 hp with e | e
    · rw [Maps.atKey_put_other (strL_ne (hne p e)), T.at_ p e]
    · simp at e
      subst e
      rw [Maps.atKey_put_same h.isMap (litL hl)]
  · rw [Maps.size_put h, hh, T.size]
    simp
  · rw [List.map_append, List.nodup_append]
    refine ⟨T.nd, by simp, fun a ha c hc => ?_⟩
    obtain ⟨p, hp, rfl⟩ := List.mem_map.1 ha
    simp at hc
    rw [hc]
    exact hne p hp
  · rcases List.mem_append.1 hp with e | e
    · exact T.short p e
    · simp at e
      subst e
      exact hl
theorem TellsM.del {D : DataW Unit} (T : TellsM D M) (h : Maps.Tidy D) {nm : List UInt8} {f : Nat} (hf : (nm, f) ∈ M) : TellsM (D.del (.string nm)) (M.filter fun p => p.1 != nm) := by
  refine ⟨fun x => ?_, fun p hp z => ?_, ?_, T.nd.sublist (List.filter_sublist.map _), fun p hp => T.short p ((List.mem_filter.1 hp).1)⟩
  · by_cases e : x = nm
    · rw [e, Maps.has_del_same]
      symm
      rw [List.any_eq_false]
      intro p hp
      simpa using (List.mem_filter.1 hp).2
    · rw [Maps.has_del_other (strL_ne e), T.has, Bool.eq_iff_iff, List.any_eq_true, List.any_eq_true]
      constructor
      · rintro ⟨p, hp, c⟩
        have : p.1 = x := by simpa using c
        exact ⟨p, List.mem_filter.2 ⟨hp, by simpa using fun d => e (by rw [← this]; exact d)⟩, c⟩
      · rintro ⟨p, hp, c⟩
        exact ⟨p, (List.mem_filter.1 hp).1, c⟩
  · obtain ⟨h1, h2⟩ := List.mem_filter.1 hp
    rw [Maps.atKey_del_other (strL_ne (by simpa using h2)), T.at_ p h1]
  · have h1 := Maps.size_del (k := .string nm) h
    rw [T.has, any_nm.2 ⟨f, hf⟩, T.size] at h1
    obtain ⟨A, B, rfl⟩ := List.append_of_mem hf
    have nd := T.nd
    rw [List.map_append, List.map_cons, List.nodup_append, List.nodup_cons] at nd
    obtain ⟨n1, ⟨n2, n3⟩, n4⟩ := nd
    have eA : (A.filter fun p => p.1 != nm) = A := List.filter_eq_self.2 fun p hp => by
      simpa using fun d => n4 p.1 (List.mem_map.2 ⟨p, hp, rfl⟩) nm (by simp) d
    have eB : (B.filter fun p => p.1 != nm) = B := List.filter_eq_self.2 fun p hp => by
      simpa using fun d => n2 (List.mem_map.2 ⟨p, hp, d⟩)
    rw [List.filter_append, List.filter_cons, eA, eB]
    simp at *
    omega
end
/-- A range over the map under way: M's entries, those that are still to come. -/
def Rng (w : World) (bm r : Nat) (M rest : List (List UInt8 × Nat)) (cnt : Nat) : Prop :=
  ∃ D left, w.ranges Tryz.prog 9 pE bm r (Maps.size D) D left cnt ∧ TellsM D M ∧ rest = M.filter fun p => left (.string p.1)
theorem Rng.kept {w w' : World} {bm r : Nat} {M rest : List (List UInt8 × Nat)} {cnt : Nat} {row : Option Nat} (h : Rng w bm r M rest cnt) (g : w.grownBy w' row) (hb : some bm ≠ row) (hr : some r ≠ row) : Rng w' bm r M rest cnt := by
  obtain ⟨D, left, h1, h2⟩ := h
  exact ⟨D, left, h1.kept g hb hr, h2⟩
theorem Rng.chg {F : Nat → Prop} {w w' : World} {bm r : Nat} {M rest : List (List UInt8 × Nat)} {cnt : Nat} (h : Rng w bm r M rest cnt) (g : Chg F w w') (hb : ¬ F bm) (hr : ¬ F r) : Rng w' bm r M rest cnt := by
  obtain ⟨D, left, h1, h2⟩ := h
  have l1 := h1.owns.lt
  have l2 := h1.lt
  refine ⟨D, left, ?_, h2⟩
  obtain ⟨es, clock, since, seen, c0, e1, F0, e2, e3, e4, e5⟩ := h1
  exact ⟨es, clock, since, seen, c0, (g.block bm l1 hb).trans e1, F0, e2, e3, (g.block r l2 hr).trans e4, e5⟩
theorem Rng.left {w : World} {bm r : Nat} {M rest : List (List UInt8 × Nat)} {cnt : Nat} (h : Rng w bm r M rest cnt) : w.rangeLeft bm r = cnt := by
  obtain ⟨D, left, h1, _⟩ := h
  exact h1.left_eq
theorem Rng.lt {w : World} {bm r : Nat} {M rest : List (List UInt8 × Nat)} {cnt : Nat} (h : Rng w bm r M rest cnt) : bm < w.heap.size ∧ r < w.heap.size ∧ r ≠ bm := by
  obtain ⟨D, left, h1, _⟩ := h
  exact ⟨h1.owns.lt, h1.lt, h1.ne⟩
theorem Rng.sub {w : World} {bm r : Nat} {M rest : List (List UInt8 × Nat)} {cnt : Nat} (h : Rng w bm r M rest cnt) : rest.Sublist M := by
  obtain ⟨D, left, h1, _, rfl⟩ := h
  exact List.filter_sublist
section
variable (w : World) {ops : Array Oper} {rest : List Oper} {o : Oper} {a : Act} {Q : Exit → Act → World → Prop}
/-- 'range m'. -/
theorem wpList_range_M (hg : o.guard = none) (m : Operand) (hop : o.op = Op.range 64 m) {bm : Nat} {M : List (List UInt8 × Nat)} (hm : a.eval m = .map (some bm)) (h : MapOf w bm M)
    (hK : ∀ w' cnt, Rng w' bm w.heap.size M M cnt → w.grownBy w' none → w'.heap.size = w.heap.size + 1 → wpList Tryz.prog ops Q rest (a.put o.dst (.pointer (some ⟨w.heap.size, 0, none⟩))) w') : wpList Tryz.prog ops Q (o :: rest) a w := by
  obtain ⟨D, h1, T⟩ := h
  refine wpList_range_own w hg m 64 hop 9 83 mapLaw Tryz.underlying64 pE bm _ D hm h1 fun w' hr hgr hs => hK w' _ ⟨D, _, hr, T, ?_⟩ hgr hs
  symm
  rw [List.filter_eq_self]
  intro p hp
  rw [T.has]
  exact any_nm.2 ⟨p.2, hp⟩
/-- The range's step. -/
theorem wpList_next_M (hg : o.guard = none) (it : Operand) (hop : o.op = Op.next it false) {bm r cnt : Nat} {M R : List (List UInt8 × Nat)} (hit : a.eval it = .pointer (some ⟨r, 0, none⟩)) (h : Rng w bm r M R cnt)
    (hDone : R = [] → wpList Tryz.prog ops Q rest (a.put o.dst (.tuple #[.bool false])) w)
    (hMore : ∀ (nm : List UInt8) (f : Nat) (R' : List (List UInt8 × Nat)) (w' : World) (cnt' : Nat), (nm, f) ∈ M → R.Perm ((nm, f) :: R') → (∀ q ∈ R', q.1 ≠ nm) → Rng w' bm r M R' cnt' → cnt' < cnt → w.grownBy w' (some r) → w'.heap.size = w.heap.size →
      (Instr.entry (.pointer (some ⟨r, 0, none⟩))).run Tryz.prog w' = .ok (.tuple #[.string ⟨nm.toArray⟩, .pointer (some ⟨f, 0, none⟩)]) w' → wpList Tryz.prog ops Q rest (a.put o.dst (.tuple #[.bool true, .string ⟨nm.toArray⟩, .pointer (some ⟨f, 0, none⟩)])) w') : wpList Tryz.prog ops Q (o :: rest) a w := by
  obtain ⟨D, left, h1, T, hR⟩ := h
  refine wpList_next_ranges (α := List UInt8) (β := Option Nat) w hg it hop 9 mapLaw pE (fun l => .string ⟨l.toArray⟩) (fun x => .pointer (x.map fun b => ⟨b, 0, none⟩)) ?_ ?_ bm r _ D left cnt hit h1 ?_ ?_
  · intro key kl hk
    obtain ⟨s, rfl⟩ := Maps.keyOf_string_inv Tryz.underlying9 hk
    exact ⟨s.data.toList, by rw [bytes_eta]⟩
  · intro v y hv
    rcases pE_inv hv with ⟨rfl, _⟩ | ⟨b, rfl, _⟩
    · exact ⟨none, rfl⟩
    · exact ⟨some b, rfl⟩
  · intro _ hl
    refine hDone ?_
    rw [hR, List.filter_eq_nil_iff]
    intro p _
    simp [hl]
  · intro nm x kl y w' cnt' hkey hlk hv hat hrg hlt hgr hsz hen
    have hkl : kl = .string nm := by
      simp [keyOf, Tryz.underlying9, mapKey] at hkey
      exact hkey.2.symm
    subst hkl
    -- the key is one of M's
    have hmem : ∃ f, (nm, f) ∈ M := by
      rw [← any_nm, ← T.has]
      obtain ⟨es, clock, since, seen, c0, e1, F0, e2, e3, e4, e5, e6, e7, e8, _⟩ := h1
      obtain ⟨z, hz, hzk⟩ := e8 _ hlk
      rw [e3]
      obtain ⟨yy, hyy⟩ := F0.reads z hz
      exact List.any_eq_true.2 ⟨WideElems.rg Tryz.prog 9 pE z, mem_sorted.2 (List.mem_map.2 ⟨z, hz, rfl⟩), by rw [hzk]; exact WideAt.sameKey_self (mapLaw.key hkey)⟩
    obtain ⟨f, hf⟩ := hmem
    have hx : x = some f := by
      have h2 := hat (.lit (.int .i64 0))
      rw [T.at_ _ hf] at h2
      rcases pE_inv hv with ⟨ev, rfl⟩ | ⟨b, ev, rfl⟩
      · have := lit_inj h2; omega
      · have h2 := lit_inj h2
        cases x with
        | none => cases ev
        | some c => injection ev with ev; injection ev with ev; injection ev with ev; rw [ev, show f = b by omega]
    subst hx
    have hshort : ∀ q ∈ M, q.1.length ≤ 16 := T.short
    have hR' : (M.filter fun p => (fun z => left z && !z.sameKey (.string nm)) (.string p.1)) = R.filter fun p => p.1 != nm := by
      rw [hR, List.filter_filter]
      refine List.filter_congr fun p hp => ?_
      show (left _ && !(Lit.string p.1).sameKey (.string nm)) = _
      rw [same_str _ _ (hshort p hp)]
      cases left (.string p.1) <;> cases hc : (p.1 == nm) <;> simp_all
    refine hMore nm f (R.filter fun p => p.1 != nm) w' cnt' hf ?_ (fun q hq => by simpa using (List.mem_filter.1 hq).2) ⟨D, _, hrg, T, hR'.symm⟩ hlt hgr hsz hen
    -- R is that entry and the rest
    have hin : (nm, f) ∈ R := by rw [hR]; exact List.mem_filter.2 ⟨hf, hlk⟩
    have nd : (R.map (·.1)).Nodup := T.nd.sublist (by rw [hR]; exact List.filter_sublist.map _)
    obtain ⟨A, B, e⟩ := List.append_of_mem hin
    rw [e] at nd ⊢
    rw [List.map_append, List.map_cons, List.nodup_append, List.nodup_cons] at nd
    obtain ⟨n1, ⟨n2, n3⟩, n4⟩ := nd
    have eA : (A.filter fun p => p.1 != nm) = A := List.filter_eq_self.2 fun p hp => by
      simpa using fun d => n4 p.1 (List.mem_map.2 ⟨p, hp, rfl⟩) nm (by simp) d
    have eB : (B.filter fun p => p.1 != nm) = B := List.filter_eq_self.2 fun p hp => by
      simpa using fun d => n2 (List.mem_map.2 ⟨p, hp, d⟩)
    rw [List.filter_append, List.filter_cons, eA, eB]
    simp only [bne_self_eq_false, Bool.false_eq_true, if_false]
    exact List.perm_middle
end
end Go.Proofs.YtapdhkgeolcogaaGreatDoor
namespace Go.Proofs.YtapdhkgeolcogaaGreatDoor
open Go.RowKit Dsk
set_option linter.unusedVariables false
set_option maxRecDepth 10000

def eB : Elm UInt8 where
  el := 5
  sl := 39
  size := 1
  bytes := 1
  zero := .int .u8 0
  enc := fun x => [.int .u8 (x.toNat : Int)]
  hu := Tryz.underlying39
  hi := by kernel_rfl
  hz := rfl
  hs := by decide
  len := fun _ => rfl
  one := by intro x v hv; simp at hv; subst hv; rfl
  he := by kernel_rfl
  so := fun W => Tryz.sizeOf5 W
def eW : Elm (Int × Nat) where
  el := 93
  sl := 89
  size := 2
  bytes := 16
  zero := .agg #[.int .i64 0, .int .i64 0]
  enc := fun p => [.int .i64 p.1, .int .i64 (p.2 : Int)]
  hu := Tryz.underlying89
  hi := by kernel_rfl
  hz := rfl
  hs := by decide
  len := fun _ => rfl
  one := by intro x v hv; simp at hv; rcases hv with rfl | rfl <;> rfl
  he := by kernel_rfl
  so := fun W => Tryz.sizeOf93 W
def eS : Elm (List UInt8) where
  el := 9
  sl := 27
  size := 1
  bytes := 16
  zero := .string ⟨#[]⟩
  enc := fun l => [.string ⟨l.toArray⟩]
  hu := Tryz.underlying27
  hi := by kernel_rfl
  hz := rfl
  hs := by decide
  len := fun _ => rfl
  one := by intro x v hv; simp at hv; subst hv; rfl
  he := by kernel_rfl
  so := fun W => Tryz.sizeOf9 W
def eN : Elm Int where
  el := 2
  sl := 115
  size := 1
  bytes := 8
  zero := .int .i64 0
  enc := fun x => [.int .i64 x]
  hu := Tryz.underlying115
  hi := by kernel_rfl
  hz := rfl
  hs := by decide
  len := fun _ => rfl
  one := by intro x v hv; simp at hv; subst hv; rfl
  he := by kernel_rfl
  so := fun W => Tryz.sizeOf2 W

/-- A file in memory: its slices vb and vw. -/
structure FilD (w : World) (f : Nat) (vb vw : Value) (fl : Fl) : Prop where
  c0 : w.cell? ⟨f, 0, none⟩ = some vb
  c1 : w.cell? ⟨f, 1, none⟩ = some vw
  fr : ∀ i, w.frozen? ⟨f, i, none⟩ = false
  rb : eB.Own w 0 vb fl.by_
  rw : eW.Own w 0 vw fl.ws
  nb : vb.ownBlock ≠ some f
  nw : vw.ownBlock ≠ some f
  bw : ∀ k, vb.ownBlock = some k → vw.ownBlock ≠ some k
/-- A file in memory; its blocks lie in G. -/
def Fil (w : World) (f : Nat) (fl : Fl) (G : Nat → Prop) : Prop := ∃ vb vw, FilD w f vb vw fl ∧ G f ∧ (∀ k, vb.ownBlock = some k → G k) ∧ (∀ k, vw.ownBlock = some k → G k) ∧ ∀ k, G k → k < w.heap.size
theorem FilD.kept {F : Nat → Prop} {w w' : World} {f : Nat} {vb vw : Value} {fl : Fl} (h : FilD w f vb vw fl) (g : Chg F w w') (hf : ¬ F f) (hb : ∀ k, vb.ownBlock = some k → ¬ F k) (hw : ∀ k, vw.ownBlock = some k → ¬ F k) : FilD w' f vb vw fl :=
  ⟨g.cell h.c0 hf, g.cell h.c1 hf, fun i => (g.frozen (a := ⟨f, i, none⟩) (show f < w.heap.size from World.block_lt_of_cell? w ⟨f, 0, none⟩ h.c0) hf).trans (h.fr i), h.rb.kept g hb, h.rw.kept g hw, h.nb, h.nw, h.bw⟩
theorem Fil.kept {F G : Nat → Prop} {w w' : World} {f : Nat} {fl : Fl} (h : Fil w f fl G) (g : Chg F w w') (hd : ∀ k, G k → ¬ F k) : Fil w' f fl G := by
  obtain ⟨vb, vw, h1, h2, h3, h4, h5⟩ := h
  exact ⟨vb, vw, h1.kept g (hd f h2) (fun k hk => hd k (h3 k hk)) (fun k hk => hd k (h4 k hk)), h2, h3, h4, fun k hk => Nat.lt_of_lt_of_le (h5 k hk) g.size⟩
theorem Fil.lt {G : Nat → Prop} {w : World} {f : Nat} {fl : Fl} (h : Fil w f fl G) : ∀ k, G k → k < w.heap.size := by
  obtain ⟨vb, vw, h1, h2, h3, h4, h5⟩ := h
  exact h5
theorem Fil.self {G : Nat → Prop} {w : World} {f : Nat} {fl : Fl} (h : Fil w f fl G) : G f := by
  obtain ⟨vb, vw, h1, h2, h3, h4, h5⟩ := h
  exact h2

/-- A disk in memory: its block b, its map bm with the entries M, the files' contents c and blocks G by the files' own blocks. -/
structure DkD (w : World) (b bm : Nat) (M : List (List UInt8 × Nat)) (c : Nat → Fl) (G : Nat → Nat → Prop) (m : Int) : Prop where
  c0 : w.cell? ⟨b, 0, none⟩ = some (.map (some bm))
  c1 : w.cell? ⟨b, 1, none⟩ = some (.int .i64 m)
  fr : ∀ i, w.frozen? ⟨b, i, none⟩ = false
  map : MapOf w bm M
  fil : ∀ p ∈ M, Fil w p.2 (c p.2) (G p.2)
  inj : ∀ p ∈ M, ∀ q ∈ M, p.2 = q.2 → p = q
  apart : ∀ p ∈ M, ∀ q ∈ M, p.2 ≠ q.2 → ∀ k, G p.2 k → ¬ G q.2 k
  base : ∀ p ∈ M, ∀ k, G p.2 k → k ≠ b ∧ k ≠ bm
  bb : b ≠ bm
theorem DkD.kept {F : Nat → Prop} {w w' : World} {b bm : Nat} {M : List (List UInt8 × Nat)} {c : Nat → Fl} {G : Nat → Nat → Prop} {m : Int} (h : DkD w b bm M c G m) (g : Chg F w w') (hb : ¬ F b) (hm : ¬ F bm) (hf : ∀ p ∈ M, ∀ k, G p.2 k → ¬ F k) : DkD w' b bm M c G m :=
  ⟨g.cell h.c0 hb, g.cell h.c1 hb, fun i => (g.frozen (a := ⟨b, i, none⟩) (show b < w.heap.size from World.block_lt_of_cell? w ⟨b, 0, none⟩ h.c0) hb).trans (h.fr i), h.map.kept g hm, fun p hp => (h.fil p hp).kept g (hf p hp), h.inj, h.apart, h.base, h.bb⟩
theorem DkD.grown {w w' : World} {b bm : Nat} {M : List (List UInt8 × Nat)} {c : Nat → Fl} {G : Nat → Nat → Prop} {m : Int} (h : DkD w b bm M c G m) (g : w.grownBy w' none) : DkD w' b bm M c G m := h.kept (F := fun _ => False) (Chg.of g (by simp)) id id (fun _ _ _ _ => id)
/-- One file has turned. -/
theorem DkD.turn {w w' : World} {b bm : Nat} {M : List (List UInt8 × Nat)} {c : Nat → Fl} {G : Nat → Nat → Prop} {m : Int} (h : DkD w b bm M c G m) {p : List UInt8 × Nat} (hp : p ∈ M) (g : Chg (G p.2) w w') {fl : Fl} {G' : Nat → Prop} (hF : Fil w' p.2 fl G') (hG : ∀ k, G' k → G p.2 k ∨ w.heap.size ≤ k) :
    DkD w' b bm M (upd c p.2 fl) (upd G p.2 G') m := by
  have hb : b < w.heap.size := World.block_lt_of_cell? w _ h.c0
  have hm : bm < w.heap.size := h.map.lt
  have nb : ¬ G p.2 b := fun e => (h.base p hp b e).1 rfl
  have nm : ¬ G p.2 bm := fun e => (h.base p hp bm e).2 rfl
  have lt : ∀ q ∈ M, ∀ k, G q.2 k → k < w.heap.size := fun q hq => (h.fil q hq).lt
  refine ⟨g.cell h.c0 nb, g.cell h.c1 nb, fun i => (g.frozen (a := ⟨b, i, none⟩) hb nb).trans (h.fr i), h.map.kept g nm, fun q hq => ?_, h.inj, fun q hq r hr hne k h1 h2 => ?_, fun q hq k hk => ?_, h.bb⟩
  · by_cases e : q.2 = p.2
    · rw [e, upd_same, upd_same]; exact hF
    · rw [upd_other _ _ e, upd_other _ _ e]
      exact (h.fil q hq).kept g (h.apart q hq p hp e)
  · by_cases e1 : q.2 = p.2
    · rw [e1, upd_same] at h1
      have e2 : r.2 ≠ p.2 := fun e => hne (by rw [e1, e])
      rw [upd_other _ _ e2] at h2
      rcases hG k h1 with e | e
      · exact h.apart p hp r hr (fun e => e2 e.symm) k e h2
      · have := lt r hr k h2; omega
    · rw [upd_other _ _ e1] at h1
      by_cases e2 : r.2 = p.2
      · rw [e2, upd_same] at h2
        rcases hG k h2 with e | e
        · exact h.apart q hq p hp e1 k h1 e
        · have := lt q hq k h1; omega
      · rw [upd_other _ _ e2] at h2
        exact h.apart q hq r hr hne k h1 h2
  · by_cases e : q.2 = p.2
    · rw [e, upd_same] at hk
      rcases hG k hk with e | e
      · exact h.base p hp k e
      · exact ⟨by omega, by omega⟩
    · rw [upd_other _ _ e] at hk
      exact h.base q hq k hk
/-- Whose blocks they are. -/
def Foot (b bm : Nat) (M : List (List UInt8 × Nat)) (G : Nat → Nat → Prop) (k : Nat) : Prop := k = b ∨ k = bm ∨ ∃ p ∈ M, G p.2 k
def lay (M : List (List UInt8 × Nat)) (c : Nat → Fl) : Ds := M.map fun p => (p.1, c p.2)
/-- A disk at b, whose blocks are F's. -/
def Dk (w : World) (b : Nat) (s : St) (F : Nat → Prop) : Prop := ∃ bm M c G, DkD w b bm M c G s.m ∧ s.l = lay M c ∧ Ok s ∧ ∀ k, F k ↔ Foot b bm M G k
theorem Dk.ok {w : World} {b : Nat} {s : St} {F : Nat → Prop} (h : Dk w b s F) : Ok s := by
  obtain ⟨_, _, _, _, _, _, h, _⟩ := h
  exact h
theorem DkD.lt {w : World} {b bm : Nat} {M : List (List UInt8 × Nat)} {c : Nat → Fl} {G : Nat → Nat → Prop} {m : Int} (h : DkD w b bm M c G m) : ∀ k, Foot b bm M G k → k < w.heap.size := by
  rintro k (rfl | rfl | ⟨p, hp, hk⟩)
  · exact World.block_lt_of_cell? w _ h.c0
  · exact h.map.lt
  · exact (h.fil p hp).lt k hk
theorem Dk.lt {w : World} {b : Nat} {s : St} {F : Nat → Prop} (h : Dk w b s F) : ∀ k, F k → k < w.heap.size := by
  obtain ⟨bm, M, c, G, h1, h2, h3, h4⟩ := h
  exact fun k hk => h1.lt k ((h4 k).1 hk)
theorem Dk.kept {F T : Nat → Prop} {w w' : World} {b : Nat} {s : St} (h : Dk w b s F) (g : Chg T w w') (hd : ∀ k, F k → ¬ T k) : Dk w' b s F := by
  obtain ⟨bm, M, c, G, h1, h2, h3, h4⟩ := h
  exact ⟨bm, M, c, G, h1.kept g (hd b ((h4 b).2 (.inl rfl))) (hd bm ((h4 bm).2 (.inr (.inl rfl)))) (fun p hp k hk => hd k ((h4 k).2 (.inr (.inr ⟨p, hp, hk⟩)))), h2, h3, h4⟩
theorem Dk.grown {F : Nat → Prop} {w w' : World} {b : Nat} {s : St} (h : Dk w b s F) (g : w.grownBy w' none) : Dk w' b s F := h.kept (T := fun _ => False) (Chg.of g (by simp)) (fun _ _ => id)
theorem lay_keys (M : List (List UInt8 × Nat)) (c : Nat → Fl) : (lay M c).map (·.1) = M.map (·.1) := by simp [lay]
theorem lay_has (M : List (List UInt8 × Nat)) (c : Nat → Fl) (nm : List UInt8) : has (lay M c) nm = M.any fun p => p.1 == nm := by
  unfold has lay
  rw [List.any_map]
  rfl
theorem lay_set {M : List (List UInt8 × Nat)} {c : Nat → Fl} (nd : (M.map (·.1)).Nodup) (inj : ∀ p ∈ M, ∀ q ∈ M, p.2 = q.2 → p = q) {p : List UInt8 × Nat} (hp : p ∈ M) (g : Fl → Fl) : lay M (upd c p.2 (g (c p.2))) = setF (lay M c) p.1 g := by
  unfold lay setF
  rw [List.map_map]
  refine List.map_congr_left fun q hq => ?_
  simp only [Function.comp]
  by_cases e : q.2 = p.2
  · have := inj q hq p hp e
    subst this
    rw [upd_same, if_pos rfl]
  · rw [upd_other _ _ e, if_neg]
    intro e1
    have : q = p := by
      obtain ⟨A, B, rfl⟩ := List.append_of_mem hp
      rw [List.map_append, List.map_cons, List.nodup_append, List.nodup_cons] at nd
      obtain ⟨n1, ⟨n2, n3⟩, n4⟩ := nd
      rcases List.mem_append.1 hq with h | h
      · exact absurd e1 (n4 _ (List.mem_map.2 ⟨q, h, rfl⟩) _ (by simp))
      · rcases List.mem_cons.1 h with h | h
        · exact h
        · exact absurd (List.mem_map.2 ⟨q, h, e1⟩) n2
    exact e (by rw [this])
end Go.Proofs.YtapdhkgeolcogaaGreatDoor
namespace Go.Proofs.YtapdhkgeolcogaaGreatDoor
open Go.RowKit Dsk
set_option linter.unusedVariables false

def isK (k : Int) : Bool := decide (97 ≤ k) && decide (k ≤ 122) || decide (48 ≤ k) && decide (k ≤ 57) || k == 45 || k == 46
theorem isB_K (c : UInt8) : isB c = isK (c.toNat : Int) := by
  have h1 : ∀ n : Nat, n < 256 → (UInt8.ofNat n ≤ c ↔ (n : Int) ≤ c.toNat) := fun n hn => by rw [UInt8.le_iff_toNat_le, UInt8.toNat_ofNat_of_lt' (by simpa using hn)]; omega
  have h2 : ∀ n : Nat, n < 256 → (c ≤ UInt8.ofNat n ↔ (c.toNat : Int) ≤ n) := fun n hn => by rw [UInt8.le_iff_toNat_le, UInt8.toNat_ofNat_of_lt' (by simpa using hn)]; omega
  have h3 : ∀ n : Nat, n < 256 → (c = UInt8.ofNat n ↔ (c.toNat : Int) = n) := fun n hn => by
    rw [← UInt8.toNat_inj, UInt8.toNat_ofNat_of_lt' (by simpa using hn)]; omega
  have a1 := h1 97 (by omega); have a2 := h2 122 (by omega); have a3 := h1 48 (by omega); have a4 := h2 57 (by omega); have a5 := h3 45 (by omega); have a6 := h3 46 (by omega)
  unfold isB isK
  rw [Bool.eq_iff_iff]
  simp only [Bool.or_eq_true, Bool.and_eq_true, decide_eq_true_eq, beq_iff_eq]
  have e1 : (97 : UInt8) = UInt8.ofNat 97 := rfl
  have e2 : (122 : UInt8) = UInt8.ofNat 122 := rfl
  have e3 : (48 : UInt8) = UInt8.ofNat 48 := rfl
  have e4 : (57 : UInt8) = UInt8.ofNat 57 := rfl
  have e5 : (45 : UInt8) = UInt8.ofNat 45 := rfl
  have e6 : (46 : UInt8) = UInt8.ofNat 46 := rfl
  rw [e1, e2, e3, e4, e5, e6, a1, a2, a3, a4, a5, a6]
  simp
set_option maxRecDepth 100000 in
set_option maxHeartbeats 1600000 in
theorem nb_any (k : Int) (h0 : 0 ≤ k) (h1 : k < 256) (w : World) : Calls Tryz.prog 66 #[.int .u8 k] w fun e w' => e = .returned (.bool (isK k)) ∧ w' = w := by
  go_enter Tryz.func66, Tryz.ntmps66
  go_wp2
  all_goals
    go_ret
    refine ⟨ret_bool ?_, rfl⟩
    unfold isK
    rw [Bool.eq_iff_iff]
    simp only [Bool.or_eq_true, Bool.and_eq_true, decide_eq_true_eq, beq_iff_eq, true_iff]
    first | omega | exact .inl (.inr trivial)
theorem nb_byte (c : UInt8) (w : World) : Calls Tryz.prog 66 #[.int .u8 (c.toNat : Int)] w fun e w' => e = .returned (.bool (isB c)) ∧ w' = w := by
  rw [isB_K]
  have := c.toNat_lt
  exact nb_any _ (by omega) (by omega) w
theorem take_snoc (s : ByteArray) (k : Nat) (h : k < s.size) : s.data.toList.take (k + 1) = s.data.toList.take k ++ [s[k]] := by
  rw [List.take_succ_eq_append_getElem (by simpa using h)]; rfl
theorem size_list (s : ByteArray) : s.size = s.data.toList.length := by simp
set_option maxRecDepth 100000 in
set_option maxHeartbeats 1600000 in
theorem name_any (s : ByteArray) (hs : s.size ≤ 140737488351232) (w : World) : Calls Tryz.prog 45 #[.string s] w fun e w' => e = .returned (.bool (isNm s.data.toList)) ∧ w' = w := by
  have NB := nb_byte
  by_cases h1 : s.size < 1
  · have hn : isNm s.data.toList = false := by unfold isNm; rw [← size_list, decide_eq_false (by omega)]; rfl
    rw [hn]
    go_enter Tryz.func45, Tryz.ntmps45
    go_wp2
    go_ret
    exact ⟨rfl, rfl⟩
  · by_cases h2 : 16 < s.size
    · have hn : isNm s.data.toList = false := by unfold isNm; rw [← size_list, decide_eq_false (p := s.size ≤ 16) (by omega)]; simp
      rw [hn]
      go_enter Tryz.func45, Tryz.ntmps45
      go_wp2
      go_ret
      exact ⟨rfl, rfl⟩
    · have hn : isNm s.data.toList = s.data.toList.all isB := by unfold isNm; rw [← size_list, decide_eq_true (by omega), decide_eq_true (by omega)]; simp
      rw [hn]
      clear hn
      obtain ⟨B, hBB⟩ : ∃ B, B = s.data.toList.all isB := ⟨_, rfl⟩
      rw [← hBB]
      have HBB : Hid (B = s.data.toList.all isB) := hBB
      clear hBB
      go_enter Tryz.func45, Tryz.ntmps45
      go_wp2
      go_loop [14] (fun i => ∃ k : Nat, k ≤ s.size ∧ i = .int .i64 k ∧ (s.data.toList.take k).all isB = true) (fun i => s.size - (intOf i).toNat)
      case atStart => exact ⟨0, Nat.zero_le _, rfl, rfl⟩
      case round =>
        obtain ⟨k, hk, rfl, hall⟩ := hrel
        have HA : Hid ((s.data.toList.take k).all isB = true) := hall
        clear hall
        by_cases hlt : k < s.size
        · have HT : Hid (s.data.toList.take (k + 1) = s.data.toList.take k ++ [s[k]]) := take_snoc s k hlt
          cases hB : isB s[k] with
          | true =>
            have NB' := NB s[k]
            rw [hB] at NB'
            clear NB
            go_wp2_with (go_at_call 66; (with_reducible refine (NB' _).mono ?_); rintro e w1 ⟨rfl, rfl⟩)
            go_round
            case rel => exact ⟨k + 1, by omega, by go_num, by rw [HT.out, List.all_append, HA.out]; simp [hB]⟩
            case measure => simp [intOf]; omega
          | false =>
            have NB' := NB s[k]
            rw [hB] at NB'
            clear NB
            have hf : s.data.toList.all isB = false := by
              rw [List.all_eq_false]
              exact ⟨s[k], by rw [show s[k] = s.data[k] from rfl]; simp, by simp [hB]⟩
            have HF : Hid (s.data.toList.all isB = false) := hf
            clear hf
            go_wp2_with (go_at_call 66; (with_reducible refine (NB' _).mono ?_); rintro e w1 ⟨rfl, rfl⟩)
            go_ret
            exact ⟨ret_bool (HF.out.symm.trans HBB.out.symm), rfl⟩
        · have : (s.data.toList.take k) = s.data.toList := List.take_of_length_le (by rw [← size_list]; omega)
          have HE : Hid (s.data.toList.all isB = true) := by rw [← this]; exact HA.out
          clear this
          go_wp2
          go_ret
          exact ⟨ret_bool (HE.out.symm.trans HBB.out.symm), rfl⟩
end Go.Proofs.YtapdhkgeolcogaaGreatDoor
namespace Go.Proofs.YtapdhkgeolcogaaGreatDoor
open Go.RowKit Dsk
set_option linter.unusedVariables false

theorem new_dk (w : World) : Dk ((w.alloc (Obj.map #[] 0)).alloc (Obj.cells #[.map (some w.heap.size), .int .i64 0] 66)) (w.heap.size + 1) newS (fun k => k = w.heap.size + 1 ∨ k = w.heap.size) := by
  refine ⟨w.heap.size, [], fun _ => ⟨[], []⟩, fun _ _ => False, ⟨?_, ?_, fun i => ?_, ?_, by simp, by simp, by simp, by simp, by omega⟩, rfl, ok_new, fun k => by simp [Foot]⟩
  · exact new_at _ (by simp) rfl
  · exact new_at _ (by simp) rfl
  · simp
  · exact (mapOf_new w).grown (World.grownBy_alloc _ _ none) (by simp)
set_option maxRecDepth 100000 in
set_option maxHeartbeats 800000 in
theorem new_ok (w : World) : Calls Tryz.prog 9 #[] w fun e w' => ∃ b F, e = .returned (.pointer (some ⟨b, 0, none⟩)) ∧ Dk w' b newS F ∧ (∀ k, F k → w.heap.size ≤ k) ∧ w.grownBy w' none := by
  have hmm := @run_makeMap Tryz.prog
  go_enter Tryz.func9, Tryz.ntmps9
  go_wp2
  go_ret
  refine ⟨_, _, rfl, new_dk w, fun k hk => ?_, grown_alloc (World.grownBy_alloc w _ none) _⟩
  rcases hk with rfl | rfl <;> omega
set_option maxRecDepth 100000 in
set_option maxHeartbeats 800000 in
theorem find_run (b bm : Nat) (s : ByteArray) (w : World) (c0 : w.cell? ⟨b, 0, none⟩ = some (.map (some bm))) (v : Option Addr) (t : Bool) (hl : (Instr.lookup 64 (.map (some bm)) (.string s) true).run Tryz.prog w = .ok (.tuple #[.pointer v, .bool t]) w) :
    Calls Tryz.prog 50 #[.pointer (some ⟨b, 0, none⟩), .string s] w fun e w' => e = .returned (.tuple #[.pointer v, .bool t]) ∧ w' = w := by
  go_enter Tryz.func50, Tryz.ntmps50
  go_wp2
  go_ret2
  exact ⟨rfl, rfl⟩
section
variable {w : World} {b bm : Nat} {M : List (List UInt8 × Nat)} {c : Nat → Fl} {G : Nat → Nat → Prop} {m : Int}
theorem find_yes (h : DkD w b bm M c G m) {s : ByteArray} (hs : s.size ≤ 140737488351232) {f : Nat} (hf : (s.data.toList, f) ∈ M) :
    Calls Tryz.prog 50 #[.pointer (some ⟨b, 0, none⟩), .string s] w fun e w' => e = .returned (.tuple #[.pointer (some ⟨f, 0, none⟩), .bool true]) ∧ w' = w :=
  find_run b bm s w h.c0 _ _ (h.map.look_yes hs hf w (grown_refl _ _))
theorem find_no (h : DkD w b bm M c G m) {s : ByteArray} (hs : s.size ≤ 140737488351232) (hf : (M.any fun p => p.1 == s.data.toList) = false) :
    Calls Tryz.prog 50 #[.pointer (some ⟨b, 0, none⟩), .string s] w fun e w' => e = .returned (.tuple #[.pointer none, .bool false]) ∧ w' = w :=
  find_run b bm s w h.c0 _ _ (h.map.look_no hs hf w (grown_refl _ _))
end
/-- A disk behind a call that turned one file. -/
theorem Dk.turned {w w' : World} {b : Nat} {s : St} {F : Nat → Prop} {bm : Nat} {M : List (List UInt8 × Nat)} {c : Nat → Fl} {G : Nat → Nat → Prop} (h : DkD w b bm M c G s.m) (hl : s.l = lay M c) (hF : ∀ k, F k ↔ Foot b bm M G k) {nm : List UInt8} {f : Nat} (hp : (nm, f) ∈ M) (C : Chg (G f) w w') (g : Fl → Fl) {G' : Nat → Prop} (hf : Fil w' f (g (c f)) G') (hG : ∀ k, G' k → G f k ∨ w.heap.size ≤ k) (ok : Ok ⟨setF s.l nm g, s.m⟩) :
    ∃ F', Dk w' b ⟨setF s.l nm g, s.m⟩ F' ∧ (∀ k, F' k → F k ∨ w.heap.size ≤ k) ∧ Chg F w w' := by
  have nd : (M.map (·.1)).Nodup := by obtain ⟨D, _, T⟩ := h.map; exact T.nd
  refine ⟨Foot b bm M (upd G f G'), ⟨bm, M, upd c f (g (c f)), upd G f G', h.turn hp C hf hG, ?_, ok, fun _ => Iff.rfl⟩, fun k hk => ?_, C.wide fun k hk => (hF k).2 (.inr (.inr ⟨_, hp, hk⟩))⟩
  · show setF s.l nm g = _
    rw [hl]
    exact (lay_set nd h.inj hp g).symm
  · rcases hk with e | e | ⟨p, hpm, hk⟩
    · exact .inl ((hF k).2 (.inl e))
    · exact .inl ((hF k).2 (.inr (.inl e)))
    · by_cases ep : p.2 = f
      · rw [ep, upd_same] at hk
        rcases hG k hk with e | e
        · exact .inl ((hF k).2 (.inr (.inr ⟨_, hp, e⟩)))
        · exact .inr e
      · rw [upd_other _ _ ep] at hk
        exact .inl ((hF k).2 (.inr (.inr ⟨p, hpm, hk⟩)))
theorem Fil.synced {w : World} {f : Nat} {fl : Fl} {G : Nat → Prop} (h : Fil w f fl G) : Fil (w.setCell ⟨f, 1, none⟩ (.slice none 0 0)) f ⟨fl.by_, []⟩ G ∧ Chg G w (w.setCell ⟨f, 1, none⟩ (.slice none 0 0)) := by
  obtain ⟨vb, vw, h1, h2, h3, h4, h5⟩ := h
  have gs := grown_set w ⟨f, 1, none⟩ (.slice none 0 0)
  refine ⟨⟨vb, .slice none 0 0, ⟨(set_other (by simp)).trans h1.c0, set_same h1.c1, fun i => (World.frozen?_setCell _ _ _ _).trans (h1.fr i), h1.rb.but gs (fun k hk e => h1.nb (by rw [hk]; exact e.symm)), Elm.nil _ _, h1.nb, by simp [Value.ownBlock], by simp [Value.ownBlock]⟩, h2, h3, by simp [Value.ownBlock], fun k hk => by rw [size_set]; exact h5 k hk⟩, Chg.of gs fun k hk => by injection hk with hk; rw [← hk]; exact h2⟩
set_option maxRecDepth 100000 in
set_option maxHeartbeats 800000 in
theorem sync_run (b f : Nat) (s : ByteArray) (w : World) (FD : Calls Tryz.prog 50 #[.pointer (some ⟨b, 0, none⟩), .string s] w fun e w' => e = .returned (.tuple #[.pointer (some ⟨f, 0, none⟩), .bool true]) ∧ w' = w) (vw : Value) (c1 : w.cell? ⟨f, 1, none⟩ = some vw) (fr : w.frozen? ⟨f, 1, none⟩ = false) :
    Calls Tryz.prog 35 #[.pointer (some ⟨b, 0, none⟩), .string s] w fun e w' => e = .returned (.int .i64 0) ∧ w' = w.setCell ⟨f, 1, none⟩ (.slice none 0 0) := by
  go_enter Tryz.func35, Tryz.ntmps35
  go_wp2_with (go_at_call 50; (with_reducible refine FD.mono ?_); rintro e w1 ⟨rfl, rfl⟩)
  go_ret
  exact ⟨rfl, rfl⟩
set_option maxRecDepth 100000 in
set_option maxHeartbeats 800000 in
theorem sync_not (b : Nat) (s : ByteArray) (w : World) (FD : Calls Tryz.prog 50 #[.pointer (some ⟨b, 0, none⟩), .string s] w fun e w' => e = .returned (.tuple #[.pointer none, .bool false]) ∧ w' = w) :
    Calls Tryz.prog 35 #[.pointer (some ⟨b, 0, none⟩), .string s] w fun e w' => e = .returned (.int .i64 80) ∧ w' = w := by
  go_enter Tryz.func35, Tryz.ntmps35
  go_wp2_with (go_at_call 50; (with_reducible refine FD.mono ?_); rintro e w1 ⟨rfl, rfl⟩)
  go_ret
  exact ⟨rfl, rfl⟩
theorem sync_any (b : Nat) (s : St) (F : Nat → Prop) (nm : ByteArray) (hs : nm.size ≤ 140737488351232) (w : World) (h : Dk w b s F) :
    Calls Tryz.prog 35 #[.pointer (some ⟨b, 0, none⟩), .string nm] w fun e w' => e = .returned (.int .i64 (hasE s.l nm.data.toList)) ∧ ∃ F', Dk w' b (syncS s nm.data.toList) F' ∧ (∀ k, F' k → F k ∨ w.heap.size ≤ k) ∧ Chg F w w' := by
  obtain ⟨bm, M, c, G, h1, h2, h3, h4⟩ := id h
  have hh : has s.l nm.data.toList = M.any fun p => p.1 == nm.data.toList := by rw [h2, lay_has]
  cases ha : M.any fun p => p.1 == nm.data.toList with
  | true =>
    obtain ⟨f, hf⟩ := any_nm.1 ha
    have hF := h1.fil _ hf
    obtain ⟨vb, vw, g1, _⟩ := id hF
    refine (sync_run b f nm w (find_yes h1 hs hf) vw g1.c1 (g1.fr 1)).mono ?_
    rintro e w' ⟨rfl, rfl⟩
    refine ⟨by unfold hasE; rw [hh, ha]; rfl, ?_⟩
    exact Dk.turned h1 h2 h4 hf hF.synced.2 (fun f => ⟨f.by_, []⟩) hF.synced.1 (fun k hk => .inl hk) (ok_sync h3 _)
  | false =>
    refine (sync_not b nm w (find_no h1 hs ha)).mono ?_
    rintro e w' ⟨rfl, rfl⟩
    have e1 : syncS s nm.data.toList = s := by unfold syncS; rw [setF_not _ (by rw [hh, ha])]
    exact ⟨by unfold hasE; rw [hh, ha]; rfl, F, by rw [e1]; exact h, fun k hk => .inl hk, Chg.refl _ _⟩
end Go.Proofs.YtapdhkgeolcogaaGreatDoor
namespace Go.Proofs.YtapdhkgeolcogaaGreatDoor
open Go.RowKit Dsk
set_option linter.unusedVariables false

theorem sum_perm {l l' : List Nat} (h : l.Perm l') : l.sum = l'.sum := by
  induction h with
  | nil => rfl
  | cons x _ ih => simp [ih]
  | swap x y l => simp; omega
  | trans _ _ a b => rw [a, b]
theorem tot_perm {L L' : Ds} (h : L.Perm L') : tot L = tot L' := sum_perm (h.map _)
theorem wait_perm {L L' : Ds} (h : L.Perm L') : wait L = wait L' := sum_perm (h.map _)
theorem lay_perm {M M' : List (List UInt8 × Nat)} (c : Nat → Fl) (h : M.Perm M') : (lay M c).Perm (lay M' c) := h.map _
theorem lay_cons (p : List UInt8 × Nat) (M : List (List UInt8 × Nat)) (c : Nat → Fl) : lay (p :: M) c = (p.1, c p.2) :: lay M c := rfl
theorem wait_cons (p : List UInt8 × Fl) (B : Ds) : wait (p :: B) = p.2.ws.length + wait B := by simp [wait]
set_option maxRecDepth 100000 in
set_option maxHeartbeats 1600000 in
theorem size_any {w : World} {b bm : Nat} {M : List (List UInt8 × Nat)} {c : Nat → Fl} {G : Nat → Nat → Prop} {m : Int} (h : DkD w b bm M c G m) (hb : tot (lay M c) ≤ 1048576) :
    Calls Tryz.prog 46 #[.pointer (some ⟨b, 0, none⟩)] w fun e w' => e = .returned (.int .i64 (tot (lay M c) : Int)) ∧ w.grownBy w' none := by
  have hm := h.map
  have c0 := h.c0
  have H : Hid (DkD w b bm M c G m) := h
  clear h
  go_enter Tryz.func46, Tryz.ntmps46
  go_wp2_with (at_range; refine wpList_range_M _ rfl _ rfl rfl hm ?_; intro w2 cnt2 hrg2 hg2 hs2)
  go_frame
  obtain ⟨r, hr⟩ : ∃ r, r = w.heap.size := ⟨_, rfl⟩
  rw [← hr] at hrg2 ⊢
  have hr1 : Hid (w.heap.size ≤ r) := Nat.le_of_eq hr.symm
  clear hs2 hr hm c0
  go_loopw [3] (fun v wr => ∃ R cnt, ∃ n : Nat, v = Value.int .i64 (n : Int) ∧ Rng wr bm r M R cnt ∧ n + tot (lay R c) = tot (lay M c) ∧ w.grownBy wr none) (fun _ wr => wr.rangeLeft bm r)
  case atStart => exact ⟨M, cnt2, 0, rfl, hrg2, by omega, hg2⟩
  case round =>
    obtain ⟨R, cnt, n, rfl, hrg, hsum, hgw⟩ := hrel
    clear hrg2 hg2
    go_wp2_with (at_next; refine wpList_next_M _ rfl _ rfl rfl hrg ?_ ?_)
    · intro h0
      have hs0 : (n : Int) = tot (lay M c) := by subst h0; rw [← hsum]; simp [lay, tot]
      have HS : Hid ((n : Int) = tot (lay M c)) := hs0
      clear hs0
      clear hsum hrg hb
      go_wp2
      go_ret
      exact ⟨ret_int HS.out, hgw⟩
    · intro nm f R' w3 cnt1 hmem hperm hne hrg3 hlt hg3 hs3 hen
      have hgw3 := grown_more hgw hg3 (fun k e => .inr (by injection e with e; have := hr1.out; omega))
      obtain ⟨vb, vw, g1, _⟩ := ((H.out.grown hgw3).fil _ hmem)
      obtain ⟨ad, cp, rfl⟩ := Elm.form g1.rb
      have k0 := g1.c0
      have hp : tot (lay R c) = (c f).by_.length + tot (lay R' c) := by rw [tot_perm (lay_perm c hperm), lay_cons, tot_cons]
      have HP : Hid (tot (lay R c) = (c f).by_.length + tot (lay R' c)) := hp
      have hn1 : (n : Int) + ((c f).by_.length : Int) ≤ 1048576 := by omega
      have hl1 : ((c f).by_.length : Int) ≤ 1048576 := by omega
      have HS : Hid (n + tot (lay R c) = tot (lay M c)) := hsum
      have hrgm := hrg.left
      have hrgm3 := hrg3.left
      have HM : Hid (w3.rangeLeft bm r < wr.rangeLeft bm r) := by rw [hrgm, hrgm3]; exact hlt
      clear g1 hsum hp hperm hne hmem hrg hrgm hrgm3 hlt hb
      go_wp2
      go_roundw
      case rel => exact ⟨R', cnt1, n + (c f).by_.length, by go_num, hrg3, by have := HS.out; have := HP.out; omega, hgw3⟩
      case measure => exact HM.out
/-- 'delete(m, name)'. -/
theorem wpList_delete_M (w : World) {ops : Array Oper} {rest : List Oper} {o : Oper} {a : Act} {Q : Exit → Act → World → Prop} (hg : o.guard = none) (mo x : Operand) (hop : o.op = Op.call { callee := Callee.builtin Builtin.delete, args := #[mo, x], argTypes := #[64, 9] })
    {bm : Nat} {M : List (List UInt8 × Nat)} (hm : a.eval mo = .map (some bm)) (h : MapOf w bm M) {s : ByteArray} (hs : s.size ≤ 140737488351232) {f : Nat} (hf : (s.data.toList, f) ∈ M) (hx : a.eval x = .string s)
    (hK : ∀ w', MapOf w' bm (M.filter fun p => p.1 != s.data.toList) → w.grownBy w' (some bm) → wpList Tryz.prog ops Q rest (a.put o.dst (.tuple #[])) w') : wpList Tryz.prog ops Q (o :: rest) a w := by
  obtain ⟨D, h1, T⟩ := h
  refine wpList_delete_own w hg mo x 64 9 hop 83 mapLaw Tryz.underlying64 pE bm _ D hm h1 _ _ hx (keyS hs) fun w' h2 h3 => hK w' ⟨_, owns_tight h2, T.del (h1.tidy mapLaw) hf⟩ h3.grown
set_option maxRecDepth 100000 in
set_option maxHeartbeats 800000 in
theorem remove_run (b bm f : Nat) (s : ByteArray) (hs : s.size ≤ 140737488351232) (M : List (List UInt8 × Nat)) (w : World) (FD : Calls Tryz.prog 50 #[.pointer (some ⟨b, 0, none⟩), .string s] w fun e w' => e = .returned (.tuple #[.pointer (some ⟨f, 0, none⟩), .bool true]) ∧ w' = w) (c0 : w.cell? ⟨b, 0, none⟩ = some (.map (some bm))) (hm : MapOf w bm M) (hf : (s.data.toList, f) ∈ M) :
    Calls Tryz.prog 41 #[.pointer (some ⟨b, 0, none⟩), .string s] w fun e w' => e = .returned (.int .i64 0) ∧ MapOf w' bm (M.filter fun p => p.1 != s.data.toList) ∧ w.grownBy w' (some bm) := by
  have HF : Hid ((s.data.toList, f) ∈ M) := hf
  clear hf
  go_enter Tryz.func41, Tryz.ntmps41
  go_wp2_with (first
    | (go_at_call 50; (with_reducible refine FD.mono ?_); rintro e w1 ⟨rfl, rfl⟩)
    | (at_delete; refine wpList_delete_M _ rfl _ _ rfl rfl hm hs HF.out rfl ?_; intro w2 hm2 hg2))
  go_ret
  exact ⟨rfl, hm2, hg2⟩
set_option maxRecDepth 100000 in
set_option maxHeartbeats 800000 in
theorem remove_not (b : Nat) (s : ByteArray) (w : World) (FD : Calls Tryz.prog 50 #[.pointer (some ⟨b, 0, none⟩), .string s] w fun e w' => e = .returned (.tuple #[.pointer none, .bool false]) ∧ w' = w) :
    Calls Tryz.prog 41 #[.pointer (some ⟨b, 0, none⟩), .string s] w fun e w' => e = .returned (.int .i64 80) ∧ w' = w := by
  go_enter Tryz.func41, Tryz.ntmps41
  go_wp2_with (go_at_call 50; (with_reducible refine FD.mono ?_); rintro e w1 ⟨rfl, rfl⟩)
  go_ret
  exact ⟨rfl, rfl⟩
theorem remove_any (b : Nat) (s : St) (F : Nat → Prop) (nm : ByteArray) (hs : nm.size ≤ 140737488351232) (w : World) (h : Dk w b s F) :
    Calls Tryz.prog 41 #[.pointer (some ⟨b, 0, none⟩), .string nm] w fun e w' => e = .returned (.int .i64 (hasE s.l nm.data.toList)) ∧ ∃ F', Dk w' b (remS s nm.data.toList) F' ∧ (∀ k, F' k → F k ∨ w.heap.size ≤ k) ∧ Chg F w w' := by
  obtain ⟨bm, M, c, G, h1, h2, h3, h4⟩ := id h
  have hh : has s.l nm.data.toList = M.any fun p => p.1 == nm.data.toList := by rw [h2, lay_has]
  have hl : (remS s nm.data.toList).l = lay (M.filter fun p => p.1 != nm.data.toList) c := by
    unfold remS lay
    rw [h2]
    unfold lay
    rw [List.filter_map]
    rfl
  cases ha : M.any fun p => p.1 == nm.data.toList with
  | true =>
    obtain ⟨f, hf⟩ := any_nm.1 ha
    refine (remove_run b bm f nm hs M w (find_yes h1 hs hf) h1.c0 h1.map hf).mono ?_
    rintro e w' ⟨rfl, hm, hg⟩
    have C : Chg (fun k => k = bm) w w' := Chg.of hg fun k hk => by injection hk with hk; exact hk.symm
    have sub : ∀ p ∈ (M.filter fun p => p.1 != nm.data.toList), p ∈ M := fun p hp => (List.mem_filter.1 hp).1
    have hb : b < w.heap.size := World.block_lt_of_cell? w _ h1.c0
    refine ⟨by unfold hasE; rw [hh, ha]; rfl, Foot b bm (M.filter fun p => p.1 != nm.data.toList) G, ⟨bm, _, c, G, ⟨C.cell h1.c0 h1.bb, C.cell h1.c1 h1.bb, fun i => (C.frozen (a := ⟨b, i, none⟩) hb h1.bb).trans (h1.fr i), hm, fun p hp => (h1.fil p (sub p hp)).kept C fun k hk e => (h1.base p (sub p hp) k hk).2 e, fun p hp q hq => h1.inj p (sub p hp) q (sub q hq), fun p hp q hq => h1.apart p (sub p hp) q (sub q hq), fun p hp => h1.base p (sub p hp), h1.bb⟩, hl, ok_rem h3 _, fun _ => Iff.rfl⟩, fun k hk => .inl ((h4 k).2 ?_), C.wide fun k hk => (h4 k).2 (.inr (.inl hk))⟩
    rcases hk with e | e | ⟨p, hp, e⟩
    · exact .inl e
    · exact .inr (.inl e)
    · exact .inr (.inr ⟨p, sub p hp, e⟩)
  | false =>
    refine (remove_not b nm w (find_no h1 hs ha)).mono ?_
    rintro e w' ⟨rfl, rfl⟩
    have e1 : remS s nm.data.toList = s := by
      unfold remS
      rw [List.filter_eq_self.2]
      intro p hp
      have := has_not (show has s.l nm.data.toList = false by rw [hh, ha]) p hp
      simpa using this
    exact ⟨by unfold hasE; rw [hh, ha]; rfl, F, by rw [e1]; exact h, fun k hk => .inl hk, Chg.refl _ _⟩
end Go.Proofs.YtapdhkgeolcogaaGreatDoor
namespace Go.Proofs.YtapdhkgeolcogaaGreatDoor
open Go.RowKit Dsk
set_option linter.unusedVariables false

set_option maxRecDepth 100000 in
theorem nil_is (w : World) : (binOp .eql 39 (.slice none 0 0) (.slice none 0 0)).run Tryz.prog w = .ok (.bool true) w := by kernel_rfl
set_option maxRecDepth 100000 in
theorem nil_not (a : Addr) (n c : Nat) (w : World) : (binOp .eql 39 (.slice (some a) n c) (.slice none 0 0)).run Tryz.prog w = .ok (.bool false) w := by kernel_rfl
set_option maxRecDepth 100000 in
set_option maxHeartbeats 800000 in
theorem clone_any (v : Value) (l : List UInt8) (w : World) (h : eB.Own w 0 v l) (hl : l.length ≤ 1048576) :
    Calls Tryz.prog 51 #[v] w fun e w' => ∃ ad c, e = .returned (.slice ad l.length c) ∧ eB.Own w' w.heap.size (.slice ad l.length c) l ∧ w.grownBy w' none := by
  have N1 := nil_is
  have N2 := nil_not
  rcases h.2 with ⟨e, h0⟩ | ⟨g, cap, cur, e, hg, hh, h1, h2, h3, h4⟩
  · have hL : l = [] := List.eq_nil_of_length_eq_zero h0
    subst hL e
    go_enter Tryz.func51, Tryz.ntmps51
    go_wp2
    go_ret
    exact ⟨none, 0, rfl, Elm.nil _ _, grown_refl _ _⟩
  · have hX := h.rx
    subst e
    have hX1 : ∀ o, eB.Rx (w.alloc o) (.slice (some ⟨g, 0, none⟩) l.length cap) l := fun o => hX.grown (World.grownBy_alloc w o none)
    have hM : eB.Own (w.alloc (.cells #[] 5)) w.heap.size (.slice (some ⟨w.heap.size, 0, none⟩) 0 0) [] := Elm.made (E := eB) w #[] 0 _ rfl (by unfold maxLen; omega) rfl
    clear h hX hh h4
    go_enter Tryz.func51, Tryz.ntmps51
    go_wp2_with (refine Elm.wpList_append (E := eB) rfl (.tmp 5) (.tmp 6) rfl w.heap.size _ [] rfl hM _ l rfl (hX1 _) (by simp; omega) (by simp [eB]; omega) (by simp) ?_; intro ad n c w2 hO2 hg2 hl2)
    go_ret
    obtain rfl : n = l.length := by have := hO2.len; simpa using this
    have gg : w.grownBy w2 none := grown_more (World.grownBy_alloc w _ none) hg2 (fun k hk => .inr (by injection hk with hk; exact Nat.le_of_eq hk))
    exact ⟨ad, c, rfl, hO2, gg⟩
set_option maxRecDepth 100000 in
set_option maxHeartbeats 800000 in
theorem read_run (b f : Nat) (s : ByteArray) (w : World) (FD : Calls Tryz.prog 50 #[.pointer (some ⟨b, 0, none⟩), .string s] w fun e w' => e = .returned (.tuple #[.pointer (some ⟨f, 0, none⟩), .bool true]) ∧ w' = w) (vb : Value) (l : List UInt8) (c0 : w.cell? ⟨f, 0, none⟩ = some vb) (hO : eB.Own w 0 vb l) (hl : l.length ≤ 1048576) :
    Calls Tryz.prog 23 #[.pointer (some ⟨b, 0, none⟩), .string s] w fun e w' => ∃ ad c, e = .returned (.tuple #[.slice ad l.length c, .int .i64 0]) ∧ eB.Own w' w.heap.size (.slice ad l.length c) l ∧ w.grownBy w' none := by
  have CL := clone_any vb l w hO hl
  clear hO
  go_enter Tryz.func23, Tryz.ntmps23
  go_wp2_with (first
    | (go_at_call 50; (with_reducible refine FD.mono ?_); rintro e w1 ⟨rfl, rfl⟩)
    | (go_at_call 51; (with_reducible refine CL.mono ?_); rintro e w2 ⟨ad, c, rfl, hO, hg⟩))
  go_ret2
  exact ⟨ad, c, rfl, hO, hg⟩
set_option maxRecDepth 100000 in
set_option maxHeartbeats 800000 in
theorem read_not (b : Nat) (s : ByteArray) (w : World) (FD : Calls Tryz.prog 50 #[.pointer (some ⟨b, 0, none⟩), .string s] w fun e w' => e = .returned (.tuple #[.pointer none, .bool false]) ∧ w' = w) :
    Calls Tryz.prog 23 #[.pointer (some ⟨b, 0, none⟩), .string s] w fun e w' => e = .returned (.tuple #[.slice none 0 0, .int .i64 80]) ∧ w' = w := by
  go_enter Tryz.func23, Tryz.ntmps23
  go_wp2_with (go_at_call 50; (with_reducible refine FD.mono ?_); rintro e w1 ⟨rfl, rfl⟩)
  go_ret2
  exact ⟨rfl, rfl⟩
theorem mem_tot {L : Ds} {p : List UInt8 × Fl} (h : p ∈ L) : p.2.by_.length ≤ tot L := by
  obtain ⟨A, B, rfl⟩ := List.append_of_mem h
  rw [tot_app, tot_cons]
  omega
theorem read_any (b : Nat) (s : St) (F : Nat → Prop) (nm : ByteArray) (hs : nm.size ≤ 140737488351232) (w : World) (h : Dk w b s F) :
    Calls Tryz.prog 23 #[.pointer (some ⟨b, 0, none⟩), .string nm] w fun e w' => ∃ ad c, e = .returned (.tuple #[.slice ad (rdB s.l nm.data.toList).length c, .int .i64 (hasE s.l nm.data.toList)]) ∧ eB.Own w' w.heap.size (.slice ad (rdB s.l nm.data.toList).length c) (rdB s.l nm.data.toList) ∧ w.grownBy w' none := by
  obtain ⟨bm, M, c, G, h1, h2, h3, h4⟩ := id h
  have hh : has s.l nm.data.toList = M.any fun p => p.1 == nm.data.toList := by rw [h2, lay_has]
  cases ha : M.any fun p => p.1 == nm.data.toList with
  | true =>
    obtain ⟨f, hf⟩ := any_nm.1 ha
    obtain ⟨vb, vw, g1, _⟩ := h1.fil _ hf
    have hmem : (nm.data.toList, c f) ∈ s.l := by rw [h2]; exact List.mem_map.2 ⟨_, hf, rfl⟩
    have e1 : rdB s.l nm.data.toList = (c f).by_ := rdB_mem h3.nd hmem
    have e2 : hasE s.l nm.data.toList = 0 := by unfold hasE; rw [hh, ha]; rfl
    have ht := mem_tot hmem
    have ht2 := h3.tot
    rw [e1, e2]
    exact read_run b f nm w (find_yes h1 hs hf) vb _ g1.c0 g1.rb (Nat.le_trans ht ht2)
  | false =>
    have hn : has s.l nm.data.toList = false := by rw [hh, ha]
    have e2 : hasE s.l nm.data.toList = 80 := by unfold hasE; rw [hn]; rfl
    rw [rdB_not hn, e2]
    refine (read_not b nm w (find_no h1 hs ha)).mono ?_
    rintro e w' ⟨rfl, rfl⟩
    exact ⟨none, 0, rfl, Elm.nil _ _, grown_refl _ _⟩
end Go.Proofs.YtapdhkgeolcogaaGreatDoor
