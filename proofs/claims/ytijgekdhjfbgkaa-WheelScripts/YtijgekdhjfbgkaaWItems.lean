/- Lists of items as they are read: 'Items' and 'Before'. -/
import Derived.Test.YtijgekdhjfbgkaaWAdv
namespace Go.Proofs.Ytijgekdhjfbgkaa
open Go.RowKit Go.Sort Whl
set_option linter.unusedVariables false

/-- The slice v reads as the items l. -/
def Ri (w : World) (v : Value) (l : List It) : Prop := ∃ ad c, v = .slice ad l.length c ∧ (l = [] ∨ ∃ g off, ad = some ⟨g, off, none⟩ ∧ ∀ j a, l[j]? = some a → w.cell? ⟨g, off + j * 2, none⟩ = some (.int .i64 a.1) ∧ w.cell? ⟨g, off + j * 2 + 1, none⟩ = some (.int .i64 a.2))
theorem Ri.of_own {w : World} {base : Nat} {v : Value} {l : List It} (h : w.ownsRow base 33 2 v l.length (cells l)) : Ri w v l := by
  rcases h.2 with ⟨e, h0⟩ | ⟨g, cap, cur, e, hg, hh, h1, h2, h3, h4⟩
  · have : l = [] := List.eq_nil_of_length_eq_zero h0
    subst this
    exact ⟨_, _, e, .inl rfl⟩
  · refine ⟨_, _, e, .inr ⟨g, 0, rfl, fun j a hj => ?_⟩⟩
    obtain ⟨hlt, hx⟩ := List.getElem?_eq_some_iff.1 hj
    have key : ∀ t, t < l.length * 2 → w.cell? ⟨g, t, none⟩ = (cells l)[t]? := fun t ht => by
      rw [← h4, List.getElem?_take_of_lt ht]
      simp [World.cell?, hh]
    have at_ : ∀ t, t < l.length * 2 → (cells l)[t]? = some ((itc l[t / 2]!)[t % 2]!) := fun t ht => by
      rw [← cells_at l t ht, List.getElem?_eq_getElem (by rw [cells_len]; exact ht), getElem!_pos (cells l) t (by rw [cells_len]; exact ht)]
    have e1 : l[j]! = a := by rw [getElem!_pos l j hlt]; exact hx
    rw [Nat.zero_add, key _ (by omega), key _ (by omega), at_ _ (by omega), at_ _ (by omega), show j * 2 / 2 = j by omega, show j * 2 % 2 = 0 by omega, show (j * 2 + 1) / 2 = j by omega, show (j * 2 + 1) % 2 = 1 by omega, e1]
    exact ⟨rfl, rfl⟩
theorem Ri.kept {F : Nat → Prop} {w w' : World} {v : Value} {l : List It} (h : Ri w v l) (g : Chg F w w') (hF : ∀ k, v.ownBlock = some k → ¬ F k) : Ri w' v l := by
  obtain ⟨ad, c, rfl, h0 | ⟨b, off, rfl, h1⟩⟩ := h
  · exact ⟨ad, c, rfl, .inl h0⟩
  · exact ⟨_, c, rfl, .inr ⟨b, off, rfl, fun j a hj => ⟨g.cell (h1 j a hj).1 (hF b rfl), g.cell (h1 j a hj).2 (hF b rfl)⟩⟩⟩
theorem Ri.grown {w w' : World} {v : Value} {l : List It} (h : Ri w v l) (g : w.grownBy w' none) : Ri w' v l := h.kept (F := fun _ => False) (Chg.of g (by simp)) (fun _ _ => id)
theorem Ri.nil (w : World) (ad : Option Addr) (c : Nat) : Ri w (.slice ad 0 c) [] := ⟨ad, c, rfl, .inl rfl⟩
theorem Ri.at {w : World} {v : Value} {l : List It} (h : Ri w v l) {j : Nat} {a : It} (hj : l[j]? = some a) : ∃ g off c, v = .slice (some ⟨g, off, none⟩) l.length c ∧ w.cell? ⟨g, off + j * 2, none⟩ = some (.int .i64 a.1) ∧ w.cell? ⟨g, off + j * 2 + 1, none⟩ = some (.int .i64 a.2) := by
  obtain ⟨ad, c, rfl, rfl | ⟨g, off, rfl, h1⟩⟩ := h
  · simp at hj
  · exact ⟨g, off, c, rfl, h1 j a hj⟩
theorem Ri.idx {w : World} {v : Value} {l : List It} (h : Ri w v l) {j : Nat} {a : It} (hj : l[j]? = some a) : ∃ g o, (∀ W, (Instr.indexAt 29 v (.int .i64 (j : Int))).run Try.prog W = .ok (.pointer (some ⟨g, o, none⟩)) W) ∧ w.cell? ⟨g, o, none⟩ = some (.int .i64 a.1) ∧ w.cell? ⟨g, o + 1, none⟩ = some (.int .i64 a.2) := by
  obtain ⟨hlt, _⟩ := List.getElem?_eq_some_iff.1 hj
  obtain ⟨g, off, c, rfl, h1, h2⟩ := h.at hj
  refine ⟨g, off + j * 2, fun W => ?_, h1, h2⟩
  rw [run_indexAt_slice (P := Try.prog) W 29 ⟨g, off, none⟩ l.length c .i64 (j : Int) (by kernel_rfl), if_pos ⟨by omega, by omega⟩, show Try.prog.elem 29 = 33 by kernel_rfl, Try.sizeOf33 W]
  show Result.ok (Value.pointer (some ((⟨g, off, none⟩ : Addr).add ((j : Int).toNat * 2)))) W = _
  rw [Addr.add_lit]
  simp
theorem neq_item (x y : Int) (w : World) : (binOp .neq 33 (.agg #[.int .i64 x, .int .i64 y]) (.agg #[.int .i64 x, .int .i64 y])).run Try.prog w = .ok (.bool false) w := by
  go_simp

set_option maxRecDepth 100000 in
set_option maxHeartbeats 1600000 in
theorem items_same (va vb : Value) (l : List It) (hl : l.length ≤ 100000) (w : World) (ha : Ri w va l) (hb : Ri w vb l) :
    Calls Try.prog 16 #[va, vb] w fun e w' => e = .returned (.bool true) ∧ ∃ n, w' = w.drewN n := by
  obtain ⟨ada, ca, rfl, _⟩ := id ha
  obtain ⟨adb, cb, rfl, _⟩ := id hb
  have HA : Hid (Ri w (.slice ada l.length ca) l) := ha
  have HB : Hid (Ri w (.slice adb l.length cb) l) := hb
  have hne : ((l.length : Int) != l.length) = false := by simp
  have hneq := neq_item
  clear ha hb
  go_enter Try.func16, Try.ntmps16
  go_wp2_with fail
  go_loopw [5] (fun i wr => ∃ j n : Nat, j ≤ l.length ∧ i = .int .i64 j ∧ wr = w.drewN n) (fun i _ => (200000 - intOf i).toNat)
  case atStart => exact ⟨0, 0, by omega, rfl, rfl⟩
  case round =>
    obtain ⟨j, n, hj, rfl, rfl⟩ := hrel
    by_cases hlt : j < l.length
    · obtain ⟨a, haj⟩ : ∃ a, l[j]? = some a := ⟨l[j], List.getElem?_eq_getElem hlt⟩
      obtain ⟨g1, o1, i1, x1, y1⟩ := HA.out.idx haj
      obtain ⟨g2, o2, i2, x2, y2⟩ := HB.out.idx haj
      clear haj
      go_upto_region 6 with fail
      refine region_still (by kernel_rfl) (by kernel_rfl) ?_
      iterate 9 still_step
      refine wpStill_nil ?_
      go_wp2_with fail
      go_roundw
      case rel => exact ⟨j + 1, n + 1, by omega, by go_num, rfl⟩
      case measure => simp [intOf]; omega
    · have hd : decide ((j : Int) < l.length) = false := decide_eq_false (by omega)
      go_wp2_with fail
      go_ret
      exact ⟨rfl, n, rfl⟩
set_option maxRecDepth 100000 in
set_option maxHeartbeats 800000 in
theorem before_any (a b : It) (w : World) : Calls Try.prog 19 #[.agg #[.int .i64 a.1, .int .i64 a.2], .agg #[.int .i64 b.1, .int .i64 b.2]] w fun e w' => e = .returned (.bool (bef a b)) ∧ w.grownBy w' none := by
  have g := fun o1 o2 => grown_alloc (World.grownBy_alloc w o1 none) o2
  go_enter Try.func19, Try.ntmps19
  go_wp2
  all_goals
    go_ret
    refine ⟨ret_bool ?_, g _ _⟩
    rw [Bool.eq_iff_iff, bef_iff]
    simp_all
    try omega
end Go.Proofs.Ytijgekdhjfbgkaa
