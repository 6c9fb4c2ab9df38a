/- areGroups, isGroup, isEpoch, mayRise, endsAbove, parts. -/
import Derived.Test.YtlolhdijadhklaaANamed
namespace Go.Proofs.Ytlolhdijadhklaa
open Go.RowKit Atl
set_option linter.unusedVariables false
set_option maxRecDepth 10000

set_option maxRecDepth 100000 in
theorem groups_any (n : Int) (w : World) : Calls Try.prog 42 #[.int .i64 n] w fun e w' => e = .returned (.bool (decide (1 ≤ n) && decide (n ≤ 8))) ∧ w' = w := by
  by_cases h1 : 1 ≤ n
  · rw [decide_eq_true h1]
    go_enter Try.func42, Try.ntmps42
    go_wp2_with fail
    go_ret
    exact ⟨by simp, rfl⟩
  · rw [decide_eq_false h1]
    have d : decide (1 ≤ n) = false := decide_eq_false h1
    go_enter Try.func42, Try.ntmps42
    go_wp2_with fail
    go_ret
    exact ⟨by simp, rfl⟩
set_option maxRecDepth 100000 in
theorem epoch_any (n : Int) (w : World) : Calls Try.prog 71 #[.int .i64 n] w fun e w' => e = .returned (.bool (isE n)) ∧ w' = w := by
  unfold isE
  by_cases h1 : 1 ≤ n
  · rw [decide_eq_true h1]
    go_enter Try.func71, Try.ntmps71
    go_wp2_with fail
    go_ret
    exact ⟨by simp, rfl⟩
  · rw [decide_eq_false h1]
    have d : decide (1 ≤ n) = false := decide_eq_false h1
    go_enter Try.func71, Try.ntmps71
    go_wp2_with fail
    go_ret
    exact ⟨by simp, rfl⟩
set_option maxRecDepth 100000 in
theorem rise_any (n : Int) (w : World) : Calls Try.prog 74 #[.int .i64 n] w fun e w' => e = .returned (.bool (mR n)) ∧ w' = w := by
  unfold mR
  go_enter Try.func74, Try.ntmps74
  go_wp2_with fail
  go_ret
  exact ⟨by simp, rfl⟩
set_option maxRecDepth 100000 in
theorem group_any (a : Am) (u : S3) (n : Int) (w : World) : Calls Try.prog 72 #[av a u, .int .i64 n] w fun e w' => e = .returned (.bool (isG a.g n)) ∧ w.grownBy w' none := by
  unfold isG
  by_cases h1 : 1 ≤ n
  · rw [decide_eq_true h1]
    go_enter Try.func72, Try.ntmps72
    go_wp2_with fail
    go_ret
    exact ⟨by simp, World.grownBy_alloc w _ none⟩
  · rw [decide_eq_false h1]
    have d : decide (1 ≤ n) = false := decide_eq_false h1
    go_enter Try.func72, Try.ntmps72
    go_wp2_with fail
    go_ret
    exact ⟨by simp, World.grownBy_alloc w _ none⟩
set_option maxRecDepth 100000 in
theorem ends_any (s : Sp) (k : ByteArray) (w : World) : Calls Try.prog 40 #[sv s, .string k] w fun e w' => e = .returned (.bool (ends s k)) ∧ w.grownBy w' none := by
  unfold ends
  cases h1 : (s.up.toList == []) with
  | true =>
    go_enter Try.func40, Try.ntmps40
    go_wp2_with fail
    go_ret
    exact ⟨by simp, World.grownBy_alloc w _ none⟩
  | false =>
    rw [← gtr_form s.up k]
    go_enter Try.func40, Try.ntmps40
    go_wp2_with fail
    go_ret
    exact ⟨by simp, World.grownBy_alloc w _ none⟩
set_option maxRecDepth 100000 in
theorem parts_any (s : Sp) (k : ByteArray) (hk : k.size ≤ 140737488351232) (w : World) : Calls Try.prog 100 #[sv s, .string k] w fun e w' => e = .returned (.bool (parts s k)) ∧ w.grownBy w' none := by
  unfold parts
  have NA := name_any k hk
  have RG : Hid (∀ W, (w.alloc (.cells (sa s) 29)).grownBy W none → W.rangeAt w.heap.size 0 (sc s)) := fun W g => by
    intro j v hj
    rw [Nat.zero_add]
    exact cell_kept g j v (by simpa using hj)
  have EN := ends_any s k
  cases h1 : named k with
  | false =>
    rw [h1] at NA
    go_enter Try.func100, Try.ntmps100
    go_wp2_with (first | (go_at_call 37; (with_reducible refine (NA _).mono ?_); rintro e w2 ⟨rfl, e2⟩; have e2' := e2.symm; clear e2; subst e2'))
    go_ret
    exact ⟨by simp, World.grownBy_alloc w _ none⟩
  | true =>
    rw [h1] at NA
    have no : lt s.fr k = false → ∀ b : Bool, (Op.bytesLess k.toList s.fr.toList = true ∨ Op.bytesLess k.toList s.fr.toList = false ∧ (k.toList == s.fr.toList) = true) → Calls Try.prog 100 #[sv s, .string k] w fun e w' => e = .returned (.bool false) ∧ w.grownBy w' none := fun h2 b h3 => by
      clear EN RG
      rcases h3 with b1 | ⟨b1, b2⟩
      · go_enter Try.func100, Try.ntmps100
        go_wp2_with (first | (go_at_call 37; (with_reducible refine (NA _).mono ?_); rintro e w2 ⟨rfl, e2⟩; have e2' := e2.symm; clear e2; subst e2'))
        go_ret
        exact ⟨by simp, World.grownBy_alloc w _ none⟩
      · go_enter Try.func100, Try.ntmps100
        go_wp2_with (first | (go_at_call 37; (with_reducible refine (NA _).mono ?_); rintro e w2 ⟨rfl, e2⟩; have e2' := e2.symm; clear e2; subst e2'))
        go_ret
        exact ⟨by simp, World.grownBy_alloc w _ none⟩
    rcases tri k s.fr with ⟨h2, b1, b2⟩ | ⟨h2, b1⟩ | ⟨h2, b1, b2⟩
    · rw [h2]
      clear no
      generalize ends s k = B at *
      go_enter Try.func100, Try.ntmps100
      go_wp2_with (first | (go_at_call 37; (with_reducible refine (NA _).mono ?_); rintro e w2 ⟨rfl, e2⟩; have e2' := e2.symm; clear e2; subst e2') | (refine load_s w.heap.size 0 s rfl (RG.out _ (grown_refl _ _)) ?_) | (go_at_call 40; (with_reducible refine (EN _).mono ?_); rintro e w3 ⟨rfl, g3⟩))
      go_ret
      exact ⟨by simp, grown_tr (World.grownBy_alloc w _ none) g3⟩
    · rw [h2]
      exact no h2 true (.inl b1)
    · rw [h2]
      exact no h2 true (.inr ⟨b1, b2⟩)
end Go.Proofs.Ytlolhdijadhklaa
