/- 'ZoneNames', walked. -/
import Derived.Test.YtlnafkcoicaefaaDoorZNames
namespace Go.Proofs.YtlnafkcoicaefaaDoor
open Go.RowKit
set_option linter.unusedVariables false

theorem named_at (i : Nat) (hi : i < 7) (w : World) (hK : Kn w) :
    Calls Tryd.prog 16 #[.string (nm i)] w fun e w' => w.grownBy w' none ∧ ∃ b, e = .returned (.tuple #[.pointer (some ⟨b, 0, none⟩), .int .i64 0]) := by
  refine (named_any (nm i) w hK).mono fun e w' ⟨hg, h⟩ => ⟨hg, ?_⟩
  rcases h with ⟨_, b, _, _, he, _⟩ | ⟨h, _⟩
  · exact ⟨b, he⟩
  · exact absurd rfl (h i hi)
theorem named_no {s : ByteArray} (h : ∀ i, i < 7 → s ≠ nm i) (w : World) (hK : Kn w) :
    Calls Tryd.prog 16 #[.string s] w fun e w' => w.grownBy w' none ∧ e = .returned (.tuple #[.pointer none, .int .i64 40]) := by
  refine (named_any s w hK).mono fun e w' ⟨hg, k⟩ => ⟨hg, ?_⟩
  rcases k with ⟨i, _, hi, hs, _⟩ | ⟨_, he⟩
  · exact absurd hs (h i hi)
  · exact he
/-- Is s among the first k names? -/
def isF (s : ByteArray) : Nat → Bool
  | 0 => false
  | k + 1 => isF s k || ((nm k).toList == s.toList)
theorem isF_at {s : ByteArray} {i : Nat} (h : s = nm i) : ∀ n, i < n → isF s n = true
  | 0, hi => by omega
  | n + 1, hi => by
    unfold isF
    by_cases c : i = n
    · subst c; rw [h]; simp
    · rw [isF_at h n (by omega)]; rfl
theorem isF_none {s : ByteArray} (h : ∀ i, i < 7 → s ≠ nm i) : ∀ n, n ≤ 7 → isF s n = false
  | 0, _ => rfl
  | n + 1, hn => by
    unfold isF
    rw [isF_none h n (by omega), name_ne (h n (by omega))]
    rfl
theorem less0 : Op.bytesLess (nm 0).toList (nm 1).toList = true := by rw [toList_eq, toList_eq]; decide
theorem less1 : Op.bytesLess (nm 1).toList (nm 2).toList = true := by rw [toList_eq, toList_eq]; decide
theorem less2 : Op.bytesLess (nm 2).toList (nm 3).toList = true := by rw [toList_eq, toList_eq]; decide
theorem less3 : Op.bytesLess (nm 3).toList (nm 4).toList = true := by rw [toList_eq, toList_eq]; decide
theorem less4 : Op.bytesLess (nm 4).toList (nm 5).toList = true := by rw [toList_eq, toList_eq]; decide
theorem less5 : Op.bytesLess (nm 5).toList (nm 6).toList = true := by rw [toList_eq, toList_eq]; decide

/-- The names lie in g. -/
def N7 (w : World) (g : Nat) : Prop := ∀ i, i < 7 → w.cell? ⟨g, i, none⟩ = some (.string (nm i))
theorem N7.kept {w w' : World} {g : Nat} (h : N7 w g) (k : w.grownBy w' none) : N7 w' g := fun i hi => k.cell (h i hi) (by simp)

set_option maxRecDepth 100000 in
set_option maxHeartbeats 6400000 in
theorem zoneNames.walk (w : World) (hK : Kn w) (s : ByteArray) :
    Calls Tryd.prog 5 #[.string s] w fun e w' => e = .returned (.bool true) ∧ Below w.heap.size w w' := by
  have hnot : ∀ (x : Bool) (w : World), (Op.unary .not (.bool x)).run Tryd.prog w = .ok (.bool (!x)) w := fun _ _ => rfl
  have A := awake_any w hK
  go_enter Tryd.func5, Tryd.ntmps5
  go_wp2_with (first
    | (go_at_call 8; go_must (refine A.mono ?_); rintro e w1 ⟨rfl, hg1⟩; have hK1 := hK.kept hg1 (by simp))
    | (go_at_call 15; go_must (refine (names_any w1 hK1).mono ?_); rintro e w2 ⟨g, rfl, hg, hg2, hc⟩))
  have G2 := grown_more hg1 hg2 (by simp)
  have H7 : N7 w2 g := hc
  clear hc hg1 hg2 hg A hK1
  go_loopw [4, 5] (fun f i wr => ∃ k : Nat, k ≤ 7 ∧ i = .int .i64 k ∧ f = .bool (isF s k) ∧ w2.grownBy wr none) (fun _ i _ => (7 - intOf i).toNat)
  case atStart => exact ⟨0, by omega, rfl, rfl, grown_refl _ _⟩
  case round =>
    obtain ⟨k, hk, rfl, rfl, hG⟩ := hrel
    have hKr := hK.kept (grown_more G2 hG (by simp)) (by simp)
    have H7r := H7.kept hG
    have hk' : k = 0 ∨ k = 1 ∨ k = 2 ∨ k = 3 ∨ k = 4 ∨ k = 5 ∨ k = 6 ∨ k = 7 := by omega
    rcases hk' with rfl | rfl | rfl | rfl | rfl | rfl | rfl | rfl
    · have NA := named_at 0 (by omega) wr hKr
      have c0 := H7r 0 (by omega)
      have HF : Hid (isF s (0 + 1) = (isF s 0 || ((nm 0).toList == s.toList))) := rfl
      have hf0 : isF s 0 = false := rfl
      rw [hf0] at HF ⊢
      clear hKr
      all_goals
        go_wp2_with (go_at_call 16; go_must (refine NA.mono ?_); rintro e w3 ⟨hg3, b, rfl⟩; have H7x := H7r.kept hg3; have d0 := H7x 0 (by omega); clear H7x)
        go_quiet (fail)
        go_wp2_with fail
        go_roundw
        case rel => exact ⟨1, by omega, rfl, congrArg Value.bool (by rw [show isF s 1 = _ from HF.out]; rfl), grown_drewN (grown_more hG hg3 (by simp)) _⟩
        case measure => simp [intOf]
    · have NA := named_at 1 (by omega) wr hKr
      have c1 := H7r 1 (by omega)
      have GQ := less0
      have HF : Hid (isF s (1 + 1) = (isF s 1 || ((nm 1).toList == s.toList))) := rfl
      generalize hq : isF s 1 = q at HF
      clear hq hKr
      cases q
      all_goals
        go_wp2_with (go_at_call 16; go_must (refine NA.mono ?_); rintro e w3 ⟨hg3, b, rfl⟩; have H7x := H7r.kept hg3; have d1 := H7x 1 (by omega); have d0 := H7x 0 (by omega); clear H7x)
        go_quiet (fail)
        go_wp2_with fail
        go_roundw
        case rel => exact ⟨2, by omega, rfl, congrArg Value.bool (by rw [show isF s 2 = _ from HF.out]; rfl), grown_drewN (grown_more hG hg3 (by simp)) _⟩
        case measure => simp [intOf]
    · have NA := named_at 2 (by omega) wr hKr
      have c2 := H7r 2 (by omega)
      have GQ := less1
      have HF : Hid (isF s (2 + 1) = (isF s 2 || ((nm 2).toList == s.toList))) := rfl
      generalize hq : isF s 2 = q at HF
      clear hq hKr
      cases q
      all_goals
        go_wp2_with (go_at_call 16; go_must (refine NA.mono ?_); rintro e w3 ⟨hg3, b, rfl⟩; have H7x := H7r.kept hg3; have d2 := H7x 2 (by omega); have d1 := H7x 1 (by omega); clear H7x)
        go_quiet (fail)
        go_wp2_with fail
        go_roundw
        case rel => exact ⟨3, by omega, rfl, congrArg Value.bool (by rw [show isF s 3 = _ from HF.out]; rfl), grown_drewN (grown_more hG hg3 (by simp)) _⟩
        case measure => simp [intOf]
    · have NA := named_at 3 (by omega) wr hKr
      have c3 := H7r 3 (by omega)
      have GQ := less2
      have HF : Hid (isF s (3 + 1) = (isF s 3 || ((nm 3).toList == s.toList))) := rfl
      generalize hq : isF s 3 = q at HF
      clear hq hKr
      cases q
      all_goals
        go_wp2_with (go_at_call 16; go_must (refine NA.mono ?_); rintro e w3 ⟨hg3, b, rfl⟩; have H7x := H7r.kept hg3; have d3 := H7x 3 (by omega); have d2 := H7x 2 (by omega); clear H7x)
        go_quiet (fail)
        go_wp2_with fail
        go_roundw
        case rel => exact ⟨4, by omega, rfl, congrArg Value.bool (by rw [show isF s 4 = _ from HF.out]; rfl), grown_drewN (grown_more hG hg3 (by simp)) _⟩
        case measure => simp [intOf]
    · have NA := named_at 4 (by omega) wr hKr
      have c4 := H7r 4 (by omega)
      have GQ := less3
      have HF : Hid (isF s (4 + 1) = (isF s 4 || ((nm 4).toList == s.toList))) := rfl
      generalize hq : isF s 4 = q at HF
      clear hq hKr
      cases q
      all_goals
        go_wp2_with (go_at_call 16; go_must (refine NA.mono ?_); rintro e w3 ⟨hg3, b, rfl⟩; have H7x := H7r.kept hg3; have d4 := H7x 4 (by omega); have d3 := H7x 3 (by omega); clear H7x)
        go_quiet (fail)
        go_wp2_with fail
        go_roundw
        case rel => exact ⟨5, by omega, rfl, congrArg Value.bool (by rw [show isF s 5 = _ from HF.out]; rfl), grown_drewN (grown_more hG hg3 (by simp)) _⟩
        case measure => simp [intOf]
    · have NA := named_at 5 (by omega) wr hKr
      have c5 := H7r 5 (by omega)
      have GQ := less4
      have HF : Hid (isF s (5 + 1) = (isF s 5 || ((nm 5).toList == s.toList))) := rfl
      generalize hq : isF s 5 = q at HF
      clear hq hKr
      cases q
      all_goals
        go_wp2_with (go_at_call 16; go_must (refine NA.mono ?_); rintro e w3 ⟨hg3, b, rfl⟩; have H7x := H7r.kept hg3; have d5 := H7x 5 (by omega); have d4 := H7x 4 (by omega); clear H7x)
        go_quiet (fail)
        go_wp2_with fail
        go_roundw
        case rel => exact ⟨6, by omega, rfl, congrArg Value.bool (by rw [show isF s 6 = _ from HF.out]; rfl), grown_drewN (grown_more hG hg3 (by simp)) _⟩
        case measure => simp [intOf]
    · have NA := named_at 6 (by omega) wr hKr
      have c6 := H7r 6 (by omega)
      have GQ := less5
      have HF : Hid (isF s (6 + 1) = (isF s 6 || ((nm 6).toList == s.toList))) := rfl
      generalize hq : isF s 6 = q at HF
      clear hq hKr
      cases q
      all_goals
        go_wp2_with (go_at_call 16; go_must (refine NA.mono ?_); rintro e w3 ⟨hg3, b, rfl⟩; have H7x := H7r.kept hg3; have d6 := H7x 6 (by omega); have d5 := H7x 5 (by omega); clear H7x)
        go_quiet (fail)
        go_wp2_with fail
        go_roundw
        case rel => exact ⟨7, by omega, rfl, congrArg Value.bool (by rw [show isF s 7 = _ from HF.out]; rfl), grown_drewN (grown_more hG hg3 (by simp)) _⟩
        case measure => simp [intOf]
    · have GF := grown_more G2 hG (by simp)
      clear H7r H7 hK
      by_cases hs : ∃ i, i < 7 ∧ s = nm i
      · obtain ⟨i, hi, hs⟩ := hs
        have NS := named_at i hi wr hKr
        rw [← hs] at NS
        have hq := isF_at hs 7 hi
        rw [hq]
        clear hq hs hKr
        go_wp2_with (go_at_call 16; go_must (refine NS.mono ?_); rintro e w3 ⟨hg3, b, rfl⟩)
        go_ret
        exact ⟨rfl, grown_below (grown_more GF hg3 (by simp))⟩
      · have hno : ∀ i, i < 7 → s ≠ nm i := fun i hi h => hs ⟨i, hi, h⟩
        have NS := named_no hno wr hKr
        have hq := isF_none hno 7 (by omega)
        rw [hq]
        clear hq hs hno hKr
        go_wp2_with (go_at_call 16; go_must (refine NS.mono ?_); rintro e w3 ⟨hg3, rfl⟩)
        go_ret
        exact ⟨rfl, grown_below (grown_more GF hg3 (by simp))⟩
end Go.Proofs.YtlnafkcoicaefaaDoor
