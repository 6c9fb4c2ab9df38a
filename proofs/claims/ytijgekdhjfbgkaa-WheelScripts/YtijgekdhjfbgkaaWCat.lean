/- Slices put one behind the other ('slices.Concat'). -/
import Derived.Test.YtijgekdhjfbgkaaWWait
import Derived.Laws.AppendOwnNone
namespace Go.Proofs.Ytijgekdhjfbgkaa
open Go.RowKit Go.Sort Go.Shelf Whl
set_option linter.unusedVariables false

theorem grow_any (n : Nat) (hn : n ≤ 1000000) (w : World) : Calls Try.prog 34 #[.slice none 0 0, .int .i64 n] w fun e w' => ∃ ad m c, e = .returned (.slice ad m c) ∧ w'.ownsRow w.heap.size 3 1 (.slice ad m c) 0 [] ∧ w.grownBy w' none := by
  by_cases h0 : n = 0
  · subst h0
    refine Calls.mono (Any8.slices_Grow_room Try.growL none 0 0 0 w (Nat.le_refl _) (by omega) (by omega) (by omega)) ?_
    rintro e w' ⟨rfl, rfl⟩
    exact ⟨_, _, _, rfl, World.ownsRow_nil _ _ _ _, grown_refl _ _⟩
  · obtain ⟨i, hi, hz0, hz1, hz2⟩ := info_parts info_int
    refine Calls.mono (Any8.slices_Grow_grow Try.growL i (.int .i64 0) hi hz0 (by rw [hz1]; omega) none 0 0 n [] w (Nat.le_refl _) (by omega) (by rw [hz2]; omega) (by omega) (by simp) (fun _ => rfl) (fun a h => by cases h)) ?_
    rintro e w' ⟨rfl, rfl⟩
    have hge : 0 + n ≤ grownCap w (0 + n) 0 (Try.growL_ren.t 25) := grownCap_ge w (0 + n) 0 3
    have hle : grownCap w (0 + n) 0 (Try.growL_ren.t 25) ≤ maxLen := grownCap_le_maxLen w (0 + n) 0 3 (by unfold maxLen; omega)
    refine ⟨_, _, _, rfl, World.ownsRow_made w.drew _ _ (Nat.le_refl _) hle ?_, grown_alloc (grown_drew (grown_refl w none)) _⟩
    simp [size_zeroCells, Value.cells] at hge ⊢
    omega
/-- Lists one behind the other. -/
def cat (ls : Nat → List Int) (k : Nat) : List Int := (List.range k).flatMap ls
theorem cat_zero (ls : Nat → List Int) : cat ls 0 = [] := rfl
theorem cat_succ (ls : Nat → List Int) (k : Nat) : cat ls (k + 1) = cat ls k ++ ls k := by simp [cat, List.range_succ]
theorem mem_cat {ls : Nat → List Int} {k : Nat} {x : Int} : x ∈ cat ls k ↔ ∃ p, p < k ∧ x ∈ ls p := by simp [cat]
theorem cat_le (ls : Nat → List Int) : ∀ (j k : Nat), j ≤ k → (cat ls j).length ≤ (cat ls k).length
  | j, 0, h => by have : j = 0 := by omega
                  rw [this]; exact Nat.le_refl _
  | j, k + 1, h => by
    by_cases e : j = k + 1
    · rw [e]; exact Nat.le_refl _
    · have := cat_le ls j k (by omega)
      rw [cat_succ, List.length_append]
      omega
theorem slice_of {w : World} {base : Nat} {v : Value} {l : List Int} (h : w.ownsRow base 3 1 v l.length (l.map (Value.int .i64))) : ∃ ad c, v = .slice ad l.length c := by
  rcases h.2 with ⟨e, h0⟩ | ⟨g, cap, cur, e, _⟩
  · exact ⟨_, _, by rw [e, h0]⟩
  · exact ⟨_, _, e⟩
/-- 'append(v, x...)', v a slice of its own, x another. -/
theorem wpList_append_ints {w : World} {ops : Array Oper} {rest : List Oper} {o : Oper} {a : Act} {Q : Exit → Act → World → Prop} (hgd : o.guard = none) (s x : Operand)
    (ho : o.op = .call { callee := .builtin .append, args := #[s, x], argTypes := #[44, 44] })
    (base : Nat) (ad0 : Option Addr) (m0 c0 : Nat) (l0 : List Int) (hs : a.eval s = .slice ad0 m0 c0) (hown : w.ownsRow base 3 1 (.slice ad0 m0 c0) l0.length (l0.map (Value.int .i64))) (X : Value) (l : List Int) (hx : a.eval x = X) (hX : w.ownsRow 0 3 1 X l.length (l.map (Value.int .i64)))
    (hb : l0.length + l.length ≤ 100000) (hbase : base ≤ w.heap.size)
    (h : ∀ ad m c w', w'.ownsRow base 3 1 (.slice ad m c) (l0 ++ l).length ((l0 ++ l).map (Value.int .i64)) → w.grownBy w' (Value.slice ad0 m0 c0).ownBlock → wpList Try.prog ops Q rest (a.put o.dst (.slice ad m c)) w') : wpList Try.prog ops Q (o :: rest) a w := by
  obtain ⟨i, hi, hz0, hz1, hz2⟩ := info_parts info_int
  rcases hX.2 with ⟨e, h0⟩ | ⟨g, cap, cur, e, hg, hh, h1, h2, h3, h4⟩
  · have hl : l = [] := List.eq_nil_of_length_eq_zero h0
    subst hl
    refine wpList_append_own_none hgd s x 44 ho base 3 i 1 Try.underlying44 hi _ l0.length (l0.map (Value.int .i64)) hs hown (hx.trans e) ?_
    exact h ad0 m0 c0 w (by simpa using hown) (grown_refl _ _)
  · refine wpList_append_own w hgd s x 44 ho base 3 i (.int .i64 0) 1 8 Try.underlying44 hi hz0 hz1 hz2 rfl (by decide) _ l0.length (l0.map (Value.int .i64)) hs hown ⟨g, 0, none⟩ l.length cap (l.map (Value.int .i64)) (hx.trans e) (by simp) ?_ ?_ (by unfold maxLen; omega) (by omega) hbase ?_
    · intro j u hu
      exact hX.cells (g := g) (by rw [e]; rfl) j u hu
    · intro u hu
      obtain ⟨z, _, rfl⟩ := List.mem_map.mp hu
      rfl
    · intro v' w' hO hgr _
      obtain ⟨ad, m, c, rfl⟩ : ∃ ad m c, v' = .slice ad m c := by
        rcases hO.2 with ⟨e, _⟩ | ⟨g, cap, cur, e, _⟩
        · exact ⟨_, _, _, e⟩
        · exact ⟨_, _, _, e⟩
      exact h ad m c w' (by simpa using hO) hgr

set_option maxRecDepth 100000 in
set_option maxHeartbeats 3200000 in
theorem concat_any (b : Nat) (v : Nat → Value) (ls : Nat → List Int) (k c : Nat) (hk : k ≤ 193) (hsum : (cat ls k).length ≤ 5000) (w : World) (cp : ∀ p, p < 193 → w.cell? ⟨b, 2 + p, none⟩ = some (v p)) (row : ∀ p, p < 193 → w.ownsRow 0 3 1 (v p) (ls p).length ((ls p).map (Value.int .i64))) :
    Calls Try.prog 28 #[.slice (some ⟨b, 2, none⟩) k c] w fun e w' => ∃ ad m c', e = .returned (.slice ad m c') ∧ w'.ownsRow w.heap.size 3 1 (.slice ad m c') (cat ls k).length ((cat ls k).map (Value.int .i64)) ∧ w.grownBy w' none := by
  have GR := fun n hn w => grow_any n hn w
  have HC : Hid (∀ p, p < 193 → w.cell? ⟨b, 2 + p, none⟩ = some (v p)) := cp
  have HR : Hid (∀ p, p < 193 → w.ownsRow 0 3 1 (v p) (ls p).length ((ls p).map (Value.int .i64))) := row
  have HL : Hid (∀ j, j ≤ k → (cat ls j).length ≤ 5000) := fun j hj => Nat.le_trans (cat_le ls j k hj) hsum
  clear cp row
  go_enter Try.func28, Try.ntmps28
  go_wp2_with fail
  go_loop [3, 11] (fun s i => ∃ j : Nat, j ≤ k ∧ i = .int .i64 j ∧ s = .int .i64 ((cat ls j).length : Nat)) (fun _ i => (200 - intOf i).toNat)
  case atStart => exact ⟨0, by omega, rfl, rfl⟩
  case round =>
    obtain ⟨j, hj, rfl, rfl⟩ := hrel
    by_cases hlt : j < k
    · have hcj := HC.out j (by omega)
      obtain ⟨ad, cc, hv⟩ := slice_of (HR.out j (by omega))
      rw [hv] at hcj
      have HS : Hid ((cat ls (j + 1)).length = (cat ls j).length + (ls j).length) := by show _ = _; rw [cat_succ, List.length_append]
      have b1 := HL.out (j + 1) (by omega)
      rw [HS.out] at b1
      generalize (cat ls j).length = sj at *
      generalize (ls j).length = lj at *
      go_wp2_with fail
      go_round
      case rel => exact ⟨j + 1, by omega, by go_num, by rw [HS.out]; go_num⟩
      case measure => simp [intOf]; omega
    · have e : j = k := by omega
      subst e
      have hd : decide ((j : Int) < j) = false := decide_eq_false (by omega)
      have G := fun w => GR (cat ls j).length (by omega) w
      clear hlt GR
      go_wp2_with (go_at_call 34; (with_reducible refine (G _).mono ?_); rintro e w1 ⟨ad1, m1, c1, rfl, hO1, hg1⟩)
      have hj0 : Hid (∀ q, q < j → q < 193) := fun q hq => by omega
      go_loopw [6, 27] (fun s i wr => ∃ (q : Nat) (ad : Option Addr) (m c : Nat), q ≤ j ∧ i = .int .i64 q ∧ s = .slice ad m c ∧ wr.ownsRow w.heap.size 3 1 (.slice ad m c) (cat ls q).length ((cat ls q).map (Value.int .i64)) ∧ w.grownBy wr none) (fun _ i _ => (200 - intOf i).toNat)
      case atStart => exact ⟨0, _, _, _, by omega, rfl, rfl, hO1, hg1⟩
      case round =>
        obtain ⟨q, ad, m, c', hq, rfl, rfl, hO, hg⟩ := hrel
        by_cases hlt : q < j
        · have hcq := hg.cell (HC.out q (hj0.out q hlt)) (by simp)
          have hrq := kept_ne (HR.out q (hj0.out q hlt)) hg (by simp)
          have b1 := HL.out (q + 1) (by omega)
          rw [cat_succ, List.length_append] at b1
          have hsz := hg.size
          go_wp2_with (refine wpList_append_ints rfl (.tmp 31) (.tmp 32) rfl w.heap.size _ _ _ (cat ls q) rfl hO (v q) (ls q) rfl hrq (by omega) hsz ?_; intro ad2 m2 c2 w2 hO2 hg2)
          go_roundw
          case rel => exact ⟨q + 1, ad2, m2, c2, by omega, by go_num, rfl, by rw [cat_succ]; exact hO2, grown_more hg hg2 fun k hk => .inr (hO.lt k hk).1⟩
          case measure => simp [intOf]; omega
        · have e : q = j := by omega
          have hd2 : decide ((q : Int) < j) = false := decide_eq_false (by omega)
          go_wp2_with fail
          go_ret
          exact ⟨ad, m, c', rfl, by rw [← e]; exact hO, hg⟩
end Go.Proofs.Ytijgekdhjfbgkaa
