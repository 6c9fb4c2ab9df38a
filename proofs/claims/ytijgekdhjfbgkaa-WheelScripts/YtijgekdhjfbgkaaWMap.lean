/- The map of the items' instants: looked up, put into, struck from. -/
import Derived.Test.YtijgekdhjfbgkaaWPut
namespace Go.Proofs.Ytijgekdhjfbgkaa
open Go.RowKit Whl
set_option linter.unusedVariables false

theorem mapLaw : Maps.Keyed Try.prog 3 := Maps.int_keyed Try.underlying3
/-- A number of 64 bits. -/
def I64 (x : Int) : Prop := -9223372036854775808 ≤ x ∧ x ≤ 9223372036854775807
theorem wf64 {x : Int} (h : I64 x) : (Lit.int .i64 x).wf = true := WalkArith.wf_i64 h
theorem key64 {x : Int} (h : I64 x) : keyOf Try.prog 3 (.int .i64 x) = some (.int .i64 x) := Maps.keyOf_int_mk Try.underlying3 (wf64 h)
theorem lit64 {x : Int} (h : I64 x) : WideAt.IsKeyLit (.int .i64 x) := mapLaw.key (key64 h)
theorem lit_ne {x y : Int} (h : x ≠ y) : (Lit.int .i64 x) ≠ .int .i64 y := fun e => h (by injection e)
theorem elem64 {x : Int} (h : I64 x) : plainElem (H := Unit) Try.prog 2 (.int .i64 x) = some (.lit (.int .i64 x), []) := plainElem_int Try.underlying2 (wf64 h)

section
variable {w : World} {bm n : Nat} {D : DataW Unit} {L : List It}
theorem look_raw (h : w.ownsMap Try.prog 3 (plainElem Try.prog 2) bm n D) {x : Int} (hx : I64 x) :
    ∃ c, (Instr.lookup 51 (.map (some bm)) (.int .i64 x) true).run Try.prog w = .ok (.tuple #[.int .i64 c, .bool (Maps.has D (.int .i64 x))]) w ∧ D.atKey (.int .i64 x) (.lit (.int .i64 0)) = .lit (.int .i64 c) := by
  obtain ⟨v, ps, hr, hv⟩ := h.look_ok mapLaw Try.underlying51 (Try.zeroValue2 w) (zd := .lit (.int .i64 0)) (zp := []) (elem64 ⟨by omega, by omega⟩) (key64 hx)
  obtain ⟨c, rfl, e, _⟩ := plainElem_int_inv Try.underlying2 hv
  injection e with e _
  exact ⟨c, hr, e⟩
theorem look_yes (h : w.ownsMap Try.prog 3 (plainElem Try.prog 2) bm n D) (T : Tells D L) {a : It} (ha : a ∈ L) (hx : I64 a.1) :
    (Instr.lookup 51 (.map (some bm)) (.int .i64 a.1) true).run Try.prog w = .ok (.tuple #[.int .i64 a.2, .bool true]) w := by
  obtain ⟨c, hr, hc⟩ := look_raw h hx
  rw [T.at_ a ha] at hc
  injection hc with hc
  injection hc with _ hc
  rw [hr, ← hc, T.has, List.any_eq_true.2 ⟨a, ha, by simp⟩]
theorem look_no (h : w.ownsMap Try.prog 3 (plainElem Try.prog 2) bm n D) (T : Tells D L) {x : Int} (hn : ∀ a ∈ L, a.1 ≠ x) (hx : I64 x) :
    (Instr.lookup 51 (.map (some bm)) (.int .i64 x) true).run Try.prog w = .ok (.tuple #[.int .i64 0, .bool false]) w := by
  obtain ⟨c, hr, hc⟩ := look_raw h hx
  have hh : Maps.has D (.int .i64 x) = false := by
    rw [T.has, List.any_eq_false]
    intro a ha
    simpa using hn a ha
  rw [Maps.atKey_of_not_has hh] at hc
  injection hc with hc
  injection hc with _ hc
  rw [hr, ← hc, hh]
theorem look_at (h : w.ownsMap Try.prog 3 (plainElem Try.prog 2) bm n D) (T : Tells D L) {a : It} (ha : a ∈ L) (hx : I64 a.1) :
    (Instr.lookup 51 (.map (some bm)) (.int .i64 a.1) false).run Try.prog w = .ok (.int .i64 a.2) w := by
  obtain ⟨c, hr, hc, _⟩ := h.lookup_int mapLaw Try.underlying51 Try.underlying2 (Try.zeroValue2 w) (key64 hx)
  rw [T.at_ a ha] at hc
  injection hc with hc
  injection hc with _ hc
  rw [hr, ← hc]
theorem any_ins {i : It} {L : List It} (id : Int) : ((ins i L).any fun a => a.1 == id) = (i.1 == id || L.any fun a => a.1 == id) := by
  rw [Bool.eq_iff_iff]
  simp only [List.any_eq_true, Bool.or_eq_true, mem_ins]
  constructor
  · rintro ⟨a, rfl | ha, h⟩
    · exact .inl h
    · exact .inr ⟨a, ha, h⟩
  · rintro (h | ⟨a, ha, h⟩)
    · exact ⟨i, .inl rfl, h⟩
    · exact ⟨a, .inr ha, h⟩
theorem Tells.ins (T : Tells D L) (h : Maps.Tidy D) {i : It} (hi : I64 i.1) (hn : ∀ a ∈ L, a.1 ≠ i.1) : Tells (D.put (.int .i64 i.1) (.lit (.int .i64 i.2))) (Whl.ins i L) := by
  have hh : Maps.has D (.int .i64 i.1) = false := by
    rw [T.has, List.any_eq_false]
    intro a ha
    simpa using hn a ha
  refine ⟨fun id => ?_, fun a ha z => ?_, ?_⟩
  · rw [any_ins]
    by_cases e : id = i.1
    · rw [e, Maps.has_put_same h.isMap (lit64 hi)]; simp
    · rw [Maps.has_put_other (lit_ne e), T.has]
      have : (i.1 == id) = false := by simpa using fun c => e c.symm
      rw [this, Bool.false_or]
  · rcases mem_ins.1 ha with e | e
    · rw [e, Maps.atKey_put_same h.isMap (lit64 hi)]
    · rw [Maps.atKey_put_other (lit_ne (hn a e)), T.at_ a e]
  · rw [Maps.size_put h, hh, len_ins, T.size]
    simp
theorem drop_len {L : List It} (hu : Uni L) (hs : L.Nodup) {a : It} (ha : a ∈ L) : (dropL a.1 L).length + 1 = L.length := by
  have e : dropL a.1 L = L.erase a := by
    rw [List.Nodup.erase_eq_filter hs]
    unfold dropL
    refine List.filter_congr fun b hb => ?_
    rw [Bool.eq_iff_iff]
    simp only [bne_iff_ne, ne_eq]
    exact ⟨fun h c => h (by rw [c]), fun h c => h (hu b hb a ha c)⟩
  rw [e, List.length_erase_of_mem ha]
  have := List.length_pos_of_mem ha
  omega
theorem any_drop {L : List It} (x id : Int) : ((dropL x L).any fun a => a.1 == id) = (id != x && L.any fun a => a.1 == id) := by
  rw [Bool.eq_iff_iff]
  unfold dropL
  simp only [List.any_eq_true, Bool.and_eq_true, List.mem_filter, bne_iff_ne, beq_iff_eq, ne_eq]
  constructor
  · rintro ⟨a, ⟨ha, h1⟩, h2⟩
    exact ⟨by rw [← h2]; exact h1, a, ha, h2⟩
  · rintro ⟨h1, a, ha, h2⟩
    exact ⟨a, ⟨ha, by rw [h2]; exact h1⟩, h2⟩
theorem Tells.drop (T : Tells D L) (h : Maps.Tidy D) (hu : Uni L) (hs : L.Nodup) {a : It} (ha : a ∈ L) : Tells (D.del (.int .i64 a.1)) (dropL a.1 L) := by
  refine ⟨fun id => ?_, fun b hb z => ?_, ?_⟩
  · rw [any_drop]
    by_cases e : id = a.1
    · rw [e, Maps.has_del_same]; simp
    · rw [Maps.has_del_other (lit_ne e), T.has]
      have : (id != a.1) = true := by simpa using e
      rw [this, Bool.true_and]
  · unfold dropL at hb
    obtain ⟨h1, h2⟩ := List.mem_filter.1 hb
    rw [Maps.atKey_del_other (lit_ne (by simpa using h2)), T.at_ b h1]
  · have := Maps.size_del (k := .int .i64 a.1) h
    rw [T.has, List.any_eq_true.2 ⟨a, ha, by simp⟩, T.size] at this
    have := drop_len hu hs ha
    simp at *
    omega
end
end Go.Proofs.Ytijgekdhjfbgkaa
