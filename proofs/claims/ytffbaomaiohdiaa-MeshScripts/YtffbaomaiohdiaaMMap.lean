/- Cuts in memory: a map whose keys are pairs. -/
import Derived.Test.YtffbaomaiohdiaaMRow
import Derived.Test.YtffbaomaiohdiaaMMath
import Derived.DeepKeys5
namespace Go.Proofs.Ytffbaomaiohdiaa
open Go.RowKit Msh
set_option linter.unusedVariables false
set_option maxRecDepth 10000

theorem laidP : laidOutB Try.prog = true := by kernel_rfl
theorem mapLaw : Maps.Keyed Try.prog 62 := Maps.Keyed.of_law (deep_law_laid laidP (m := 3) (by omega) (by decide +kernel) (by kernel_rfl) (by kernel_rfl))
/-- A pair as a key. -/
def kk (a b : Int) : Lit := .string (keyBytes [.int .i64 a, .int .i64 b])
abbrev I64 (x : Int) : Prop := -9223372036854775808 ≤ x ∧ x ≤ 9223372036854775807
theorem min64 : IntKind.i64.min = -9223372036854775808 := by decide
theorem max64 : IntKind.i64.max = 9223372036854775807 := by decide
theorem wf64 {a : Int} (h : I64 a) : (Lit.int .i64 a).wf = true := by
  unfold I64 at h
  simp [Lit.wf, min64] at *
  exact h
theorem typesN : Try.prog.types.size = 91 := by kernel_rfl
theorem keyTypeP : Try.prog.keyType 62 = true := by kernel_rfl
theorem cellsP : Try.prog.cellsOf 62 = 2 := by kernel_rfl
theorem cellsI : Try.prog.cellsOf 3 = 1 := by kernel_rfl
theorem litsI {a : Int} (h : I64 a) (d : Nat) : Try.prog.keyLits (d + 1) 3 [.int .i64 a] = some [.int .i64 a] := by
  unfold Program.keyLits
  simp [Try.underlying3, wf64 h]
theorem litsP {a b : Int} (ha : I64 a) (hb : I64 b) (d : Nat) : Try.prog.keyLits (d + 2) 62 [.int .i64 a, .int .i64 b] = some [.int .i64 a, .int .i64 b] := by
  unfold Program.keyLits
  simp [Try.underlying62, cellsP, cellsI, litsI ha, litsI hb]
theorem keyP {a b : Int} (ha : I64 a) (hb : I64 b) : keyOf Try.prog 62 (.agg #[.int .i64 a, .int .i64 b]) = some (kk a b) := by
  have h1 : (Value.agg #[.int .i64 a, .int .i64 b]).formed Try.prog 62 = true := by simp [Value.formed, Try.underlying62, cellsP]
  have h2 : Try.prog.keyLits (Try.prog.types.size + 1) 62 [.int .i64 a, .int .i64 b] = some [.int .i64 a, .int .i64 b] := by rw [typesN]; exact litsP ha hb 90
  simp only [keyOf, Try.underlying62, keyTypeP, h1, Bool.and_self, if_true, Value.cells]
  rw [h2]
  rfl
theorem kk_inj {a b c d : Int} (ha : I64 a) (hb : I64 b) (hc : I64 c) (hd : I64 d) (h : kk a b = kk c d) : a = c ∧ b = d := by
  have h1 := keyP ha hb
  have h2 := keyP hc hd
  rw [h] at h1
  have := mapLaw.inj h1 h2
  injection this with this
  simp at this
  exact this
theorem litK {a b : Int} (ha : I64 a) (hb : I64 b) : WideAt.IsKeyLit (kk a b) := mapLaw.key (keyP ha hb)
/-- An element without cells. -/
def uE (v : Value) : Option (DataW Unit × List MemPlace) := match v with
  | .agg ⟨[]⟩ => some (.lit (.bool true), [])
  | _ => none
theorem uE_some : uE (.agg #[]) = some (.lit (.bool true), []) := rfl
theorem uE_inv {v : Value} {y : DataW Unit × List MemPlace} (h : uE v = some y) : v = .agg #[] := by
  unfold uE at h
  split at h
  · rfl
  · cases h
/-- The map in block bm tells the cuts. -/
def MapC (w : World) (bm : Nat) (cs : List (Int × Int)) : Prop := ∃ D, w.ownsMap Try.prog 62 uE bm (Maps.size D) D ∧ (Maps.size D = cs.length ∧ Sgl cs) ∧ ∀ a b, I64 a → I64 b → Maps.has D (kk (min a b) (max a b)) = isCut cs a b
theorem MapC.lt {w : World} {bm : Nat} {cs : List (Int × Int)} (h : MapC w bm cs) : bm < w.heap.size := by
  obtain ⟨D, h, _⟩ := h
  exact h.lt
theorem MapC.kept {F : Nat → Prop} {w w' : World} {bm : Nat} {cs : List (Int × Int)} (h : MapC w bm cs) (g : Chg F w w') (hF : ¬ F bm) : MapC w' bm cs := by
  obtain ⟨D, h1, h2⟩ := h
  exact ⟨D, g.maps h1 hF, h2⟩
theorem MapC.grown {w w' : World} {bm : Nat} {cs : List (Int × Int)} {row : Option Nat} (h : MapC w bm cs) (g : w.grownBy w' row) (hne : some bm ≠ row) : MapC w' bm cs := by
  obtain ⟨D, h1, h2⟩ := h
  exact ⟨D, h1.kept g hne, h2⟩
theorem mapC_new (w : World) : MapC (w.alloc (Obj.map #[] 0)) w.heap.size [] := ⟨.map [], World.ownsMap_made w _ _ _, ⟨by simp [Maps.size], List.Pairwise.nil⟩, fun _ _ _ _ => rfl⟩
theorem I64.lo {a b : Int} (ha : I64 a) (hb : I64 b) : I64 (min a b) := by unfold I64 at *; omega
theorem I64.hi {a b : Int} (ha : I64 a) (hb : I64 b) : I64 (max a b) := by unfold I64 at *; omega
theorem MapC.look {w : World} {bm : Nat} {cs : List (Int × Int)} (h : MapC w bm cs) {a b : Int} (ha : I64 a) (hb : I64 b) :
    (Instr.lookup 50 (.map (some bm)) (.agg #[.int .i64 (min a b), .int .i64 (max a b)]) true).run Try.prog w = .ok (.tuple #[.agg #[], .bool (isCut cs a b)]) w := by
  obtain ⟨D, h1, h2, h3⟩ := h
  obtain ⟨v, ps, hr, hv⟩ := h1.look_ok mapLaw Try.underlying50 (Try.zeroValue60 w) (zd := .lit (.bool true)) (zp := []) uE_some (keyP (ha.lo hb) (ha.hi hb))
  rw [hr, uE_inv hv, h3 a b ha hb]
theorem turned_size {w w' : World} {b : Nat} (h : w.mapTurned w' b) : w'.heap.size = w.heap.size := by
  obtain ⟨es, clock, es', clock', hb, rfl⟩ := h
  simp [ChangeMaps.setBlock]
theorem MapC.put {w : World} {bm : Nat} {cs : List (Int × Int)} (h : MapC w bm cs) {a b : Int} (ha : I64 a) (hb : I64 b) (hl : cs.length ≤ 1000000) :
    ∃ w', (Instr.mapUpdate 50 (.map (some bm)) (.agg #[.int .i64 (min a b), .int .i64 (max a b)]) (.agg #[])).run Try.prog w = .ok () w' ∧ MapC w' bm (cutL cs a b) ∧ w.grownBy w' (some bm) ∧ w'.heap.size = w.heap.size := by
  obtain ⟨D, h1, h2, h3⟩ := h
  obtain ⟨w', hr, ho, ht⟩ := h1.store mapLaw Try.underlying50 (by unfold maxLen; omega) (keyP (ha.lo hb) (ha.hi hb)) uE_some
  have td := h1.tidy mapLaw
  refine ⟨w', hr, ⟨_, owns_tight ho, ⟨?_, sgl_cut h2.2 a b⟩, fun x y hx hy => ?_⟩, World.mapTurned.grown ht, turned_size ht⟩
  · rw [Maps.size_put td, h3 a b ha hb, h2.1]
    unfold cutL
    split <;> simp_all
  · rw [isCut_cut, same_min]
    by_cases e : min x y = min a b ∧ max x y = max a b
    · rw [e.1, e.2, Maps.has_put_same td.isMap (litK (ha.lo hb) (ha.hi hb))]
      simp
    · rw [Maps.has_put_other (fun c => e (kk_inj (hx.lo hy) (hx.hi hy) (ha.lo hb) (ha.hi hb) c)), h3 x y hx hy]
      have : (min a b == min x y && max a b == max x y) = false := by
        rw [Bool.and_eq_false_iff, beq_eq_false_iff_ne, beq_eq_false_iff_ne]
        omega
      rw [this, Bool.or_false]
theorem MapC.del {w : World} {bm : Nat} {cs : List (Int × Int)} (h : MapC w bm cs) {a b : Int} (ha : I64 a) (hb : I64 b) (ty : TypeId) :
    ∃ w', (Builtin.delete_ #[50, 62] ty #[.map (some bm), .agg #[.int .i64 (min a b), .int .i64 (max a b)]]).run Try.prog w = .ok (.tuple #[]) w' ∧ MapC w' bm (joinL cs a b) ∧ w.grownBy w' (some bm) ∧ w'.heap.size = w.heap.size := by
  obtain ⟨D, h1, h2, h3⟩ := h
  obtain ⟨w', hr, ho, ht⟩ := h1.drop mapLaw Try.underlying50 (keyP (ha.lo hb) (ha.hi hb)) ty
  have td := h1.tidy mapLaw
  refine ⟨w', hr, ⟨_, owns_tight ho, ⟨?_, sgl_join h2.2 a b⟩, fun x y hx hy => ?_⟩, World.mapTurned.grown ht, turned_size ht⟩
  · have e1 := Maps.size_del (k := kk (min a b) (max a b)) td
    rw [h3 a b ha hb, h2.1] at e1
    have e2 := join_count h2.2 a b
    omega
  · rw [isCut_join, same_min]
    by_cases e : min x y = min a b ∧ max x y = max a b
    · rw [e.1, e.2, Maps.has_del_same]
      simp
    · rw [Maps.has_del_other (fun c => e (kk_inj (hx.lo hy) (hx.hi hy) (ha.lo hb) (ha.hi hb) c)), h3 x y hx hy]
      have : (min a b == min x y && max a b == max x y) = false := by
        rw [Bool.and_eq_false_iff, beq_eq_false_iff_ne, beq_eq_false_iff_ne]
        omega
      rw [this, Bool.not_false, Bool.and_true]
end Go.Proofs.Ytffbaomaiohdiaa
