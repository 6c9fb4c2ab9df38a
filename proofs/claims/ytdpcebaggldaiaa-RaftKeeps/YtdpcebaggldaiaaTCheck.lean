/- Check, Last, Newer, agreeing. -/
import Derived.Test.YtdpcebaggldaiaaTBase
namespace Go.Proofs.Ytdpcebaggldaiaa
open Go.RowKit Trl
set_option linter.unusedVariables false
set_option maxRecDepth 10000

/-- A log in a box of its own stays there. -/
theorem box_kept {w W : World} {b k : Int} {v : Value} {t : TypeId} (g : (w.alloc (.cells #[.int .i64 b, .int .i64 k, v] t)).grownBy W none) :
    W.cell? ⟨w.heap.size, 0, none⟩ = some (.int .i64 b) ∧ W.cell? ⟨w.heap.size, 1, none⟩ = some (.int .i64 k) ∧ W.cell? ⟨w.heap.size, 2, none⟩ = some v :=
  ⟨cell_kept g 0 _ rfl, cell_kept g 1 _ rfl, cell_kept g 2 _ rfl⟩
theorem chk_bad {b k : Int} {l : List En} (h : b < 0 ∨ 1099511627776 < b ∨ k < 0 ∨ 1099511627776 < k ∨ (b = 0 ∧ k ≠ 0) ∨ 4096 < l.length ∨ 1099511627776 < b + (l.length : Int)) : chk b k l = false := by
  cases hc : chk b k l with
  | false => rfl
  | true =>
    obtain ⟨⟨h1, h2, h3, h4⟩, h5, h6, h7, _⟩ := (chk_iff b k l).1 hc
    rcases h with h | h | h | h | ⟨h, h'⟩ | h | h
    all_goals first | omega | exact absurd (h5 h) h'
theorem chk_good {b k : Int} {l : List En} (h1 : ¬ b < 0) (h2 : ¬ 1099511627776 < b) (h3 : ¬ k < 0) (h4 : ¬ 1099511627776 < k) (h5 : b = 0 → k = 0) (h6 : ¬ 4096 < l.length) (h7 : ¬ 1099511627776 < b + (l.length : Int)) : chk b k l = foll k l := by
  cases hf : foll k l with
  | true => exact (chk_iff b k l).2 ⟨⟨by omega, by omega, by omega, by omega⟩, h5, by omega, by omega, hf⟩
  | false =>
    cases hc : chk b k l with
    | false => rfl
    | true =>
      have := ((chk_iff b k l).1 hc).2.2.2.2
      rw [hf] at this
      cases this
set_option maxRecDepth 100000 in
set_option maxHeartbeats 800000 in
theorem check_any (b k : Int) (v : Value) (l : List En) (w : World) (h : Sl w v l) :
    Calls Try.prog 44 #[tv b k v] w fun e w' => e = .returned (.bool (chk b k l)) ∧ w.grownBy w' none := by
  obtain ⟨ad, c, hv, hlc, hc, hr⟩ := id h
  subst hv
  have FO : Hid (∀ W, w.grownBy W none → Calls Try.prog 64 #[.slice ad l.length c, .int .i64 k] W fun e w' => e = .returned (.bool (foll k l)) ∧ W.grownBy w' none) := fun W g => follow_any _ l k W (h.grown g)
  have GA : ∀ o, w.grownBy (w.alloc o) none := fun o => World.grownBy_alloc w o none
  have BK : Hid (∀ {W : World}, (w.alloc (.cells #[.int .i64 b, .int .i64 k, .slice ad l.length c] 25)).grownBy W none → _) := fun {W} g => box_kept g
  clear h hr
  by_cases h1 : b < 0
  · rw [chk_bad (.inl h1)]
    generalize l.length = N at *
    go_enter Try.func44, Try.ntmps44
    go_wp2_with fail
    go_ret
    exact ⟨rfl, GA _⟩
  by_cases h2 : 1099511627776 < b
  · rw [chk_bad (.inr (.inl h2))]
    generalize l.length = N at *
    go_enter Try.func44, Try.ntmps44
    go_wp2_with fail
    go_ret
    exact ⟨rfl, GA _⟩
  by_cases h3 : k < 0
  · rw [chk_bad (.inr (.inr (.inl h3)))]
    generalize l.length = N at *
    go_enter Try.func44, Try.ntmps44
    go_wp2_with fail
    go_ret
    exact ⟨rfl, GA _⟩
  by_cases h4 : 1099511627776 < k
  · rw [chk_bad (.inr (.inr (.inr (.inl h4))))]
    generalize l.length = N at *
    go_enter Try.func44, Try.ntmps44
    go_wp2_with fail
    go_ret
    exact ⟨rfl, GA _⟩
  have EA : 4096 < l.length ∨ Hid (∀ W, _) := (by
    by_cases h6 : 4096 < l.length
    · exact .inl h6
    · exact .inr fun W => end_any b k ad l.length c W (by omega) (by omega) (by omega) :
    4096 < l.length ∨ Hid (∀ W, Calls Try.prog 62 #[tv b k (.slice ad l.length c)] W fun e w' => e = .returned (.int .i64 (b + (l.length : Int))) ∧ W.grownBy w' none))
  by_cases h5 : b = 0
  · by_cases h5' : k = 0
    · subst h5 h5'
      rcases EA with h6 | EA
      · rw [chk_bad (.inr (.inr (.inr (.inr (.inr (.inl h6))))))]
        have d6 : decide ((l.length : Int) ≤ 4096) = false := decide_eq_false (by omega)
        clear FO BK
        generalize l.length = N at *
        go_enter Try.func44, Try.ntmps44
        go_wp2_with fail
        go_ret
        exact ⟨rfl, GA _⟩
      · by_cases h6 : 4096 < l.length
        · rw [chk_bad (.inr (.inr (.inr (.inr (.inr (.inl h6))))))]
          have d6 : decide ((l.length : Int) ≤ 4096) = false := decide_eq_false (by omega)
          clear FO BK
          generalize l.length = N at *
          go_enter Try.func44, Try.ntmps44
          go_wp2_with fail
          go_ret
          exact ⟨rfl, GA _⟩
        · rw [chk_good h1 h2 h3 h4 (fun _ => rfl) h6 (by omega)]
          have d6 : decide ((l.length : Int) ≤ 4096) = true := decide_eq_true (by omega)
          have d7 : decide ((0 : Int) + (l.length : Int) ≤ 1099511627776) = true := decide_eq_true (by omega)
          have d8 : decide ((l.length : Int) ≤ 1099511627776) = true := decide_eq_true (by omega)
          generalize l.length = N at *
          go_enter Try.func44, Try.ntmps44
          go_wp2_with (first
            | (go_at_call 62; (with_reducible refine (EA.out _).mono ?_); rintro e w1 ⟨rfl, g1⟩; obtain ⟨c0, c1, c2⟩ := BK.out g1; have G1 := grown_tr (GA _) g1)
            | (go_at_call 64; (with_reducible refine (FO.out _ G1).mono ?_); rintro e w2 ⟨rfl, g2⟩))
          go_ret
          exact ⟨rfl, grown_tr G1 g2⟩
    · rw [chk_bad (.inr (.inr (.inr (.inr (.inl ⟨h5, h5'⟩)))))]
      have e5 : (b == 0) = true := by simpa using h5
      have e6 : (k != 0) = true := by simpa using h5'
      clear EA FO BK
      generalize l.length = N at *
      go_enter Try.func44, Try.ntmps44
      go_wp2_with fail
      go_ret
      exact ⟨rfl, GA _⟩
  have e5 : (b == 0) = false := by simpa using h5
  by_cases h6 : 4096 < l.length
  · rw [chk_bad (.inr (.inr (.inr (.inr (.inr (.inl h6))))))]
    have d6 : decide ((l.length : Int) ≤ 4096) = false := decide_eq_false (by omega)
    clear FO BK EA
    generalize l.length = N at *
    go_enter Try.func44, Try.ntmps44
    go_wp2_with fail
    go_ret
    exact ⟨rfl, GA _⟩
  replace EA := EA.resolve_left h6
  have d6 : decide ((l.length : Int) ≤ 4096) = true := decide_eq_true (by omega)
  by_cases h7 : 1099511627776 < b + (l.length : Int)
  · rw [chk_bad (.inr (.inr (.inr (.inr (.inr (.inr h7))))))]
    have d7 : decide (b + (l.length : Int) ≤ 1099511627776) = false := decide_eq_false (by omega)
    generalize l.length = N at *
    go_enter Try.func44, Try.ntmps44
    go_wp2_with (go_at_call 62; (with_reducible refine (EA.out _).mono ?_); rintro e w1 ⟨rfl, g1⟩; obtain ⟨c0, c1, c2⟩ := BK.out g1; have G1 := grown_tr (GA _) g1)
    go_ret
    exact ⟨rfl, G1⟩
  · rw [chk_good h1 h2 h3 h4 (fun e => absurd e h5) h6 h7]
    have d7 : decide (b + (l.length : Int) ≤ 1099511627776) = true := decide_eq_true (by omega)
    generalize l.length = N at *
    go_enter Try.func44, Try.ntmps44
    go_wp2_with (first
      | (go_at_call 62; (with_reducible refine (EA.out _).mono ?_); rintro e w1 ⟨rfl, g1⟩; obtain ⟨c0, c1, c2⟩ := BK.out g1; have G1 := grown_tr (GA _) g1)
      | (go_at_call 64; (with_reducible refine (FO.out _ G1).mono ?_); rintro e w2 ⟨rfl, g2⟩))
    go_ret
    exact ⟨rfl, grown_tr G1 g2⟩
/-- What a right log is. -/
theorem chk_parts {b k : Int} {l : List En} (h : chk b k l = true) : 0 ≤ b ∧ b ≤ 1099511627776 ∧ 0 ≤ k ∧ k ≤ 1099511627776 ∧ l.length ≤ 4096 ∧ b + (l.length : Int) ≤ 1099511627776 ∧ foll k l = true := by
  obtain ⟨⟨h1, h2, h3, h4⟩, h5, h6, h7, h8⟩ := (chk_iff b k l).1 h
  exact ⟨h1, h2, h3, h4, h6, h7, h8⟩
theorem tm_end (b k : Int) (l : List En) : tm b k l (b + (l.length : Int)) = lastT k l := by
  unfold tm
  rw [show (b + (l.length : Int) - b).toNat = l.length by omega, List.take_of_length_le (Nat.le_refl _)]
set_option maxRecDepth 100000 in
set_option maxHeartbeats 800000 in
theorem last_any (b k : Int) (v : Value) (l : List En) (w : World) (h : Sl w v l) (hk : chk b k l = true) :
    Calls Try.prog 43 #[tv b k v] w fun e w' => e = .returned (.tuple #[.int .i64 (b + (l.length : Int)), .int .i64 (lastT k l)]) ∧ w.grownBy w' none := by
  obtain ⟨ad, c, hv, hlc, hc, hr⟩ := id h
  subst hv
  obtain ⟨p1, p2, p3, p4, p5, p6, p7⟩ := chk_parts hk
  have GA : ∀ o, w.grownBy (w.alloc o) none := fun o => World.grownBy_alloc w o none
  have CK : Hid (∀ W, w.grownBy W none → _) := fun W g => check_any b k _ l W (h.grown g)
  have EA : Hid (∀ W, _) := fun W => end_any b k ad l.length c W p1 p2 p5
  have TA : Hid (∀ W, w.grownBy W none → _) := fun W g => termAt_any b k (b + (l.length : Int)) _ l W (h.grown g) p1 p2 (by omega) (by omega) p5
  have BK : Hid (∀ {W : World}, (w.alloc (.cells #[.int .i64 b, .int .i64 k, .slice ad l.length c] 25)).grownBy W none → _) := fun {W} g => box_kept g
  rw [tm_end] at TA
  rw [hk] at CK
  clear h hr hk p7
  generalize lastT k l = q at *
  generalize l.length = N at *
  go_enter Try.func43, Try.ntmps43
  go_wp2_with (first
    | (go_at_call 44; (with_reducible refine (CK.out _ (GA _)).mono ?_); rintro e w1 ⟨rfl, g1⟩; obtain ⟨c0, c1, c2⟩ := BK.out g1)
    | (go_at_call 62; (with_reducible refine (EA.out _).mono ?_); rintro e w2 ⟨rfl, g2⟩; have G2 := grown_tr g1 g2; obtain ⟨c3, c4, c5⟩ := BK.out G2)
    | (go_at_call 63; (with_reducible refine (TA.out _ (grown_tr (GA _) G2)).mono ?_); rintro e w3 ⟨rfl, g3⟩))
  go_ret2
  exact ⟨rfl, grown_tr (GA _) (grown_tr G2 g3)⟩
/-- A log that ends with the number n of the term q is as new as this one. -/
def new (b k : Int) (l : List En) (n q : Int) : Bool := decide (lastT k l < q) || (decide (q = lastT k l) && decide (b + (l.length : Int) ≤ n))
set_option maxRecDepth 100000 in
set_option maxHeartbeats 800000 in
theorem newer_any (b k n q : Int) (v : Value) (l : List En) (w : World) (h : Sl w v l) (hk : chk b k l = true) :
    Calls Try.prog 52 #[tv b k v, .int .i64 n, .int .i64 q] w fun e w' => e = .returned (.bool (new b k l n q)) ∧ w.grownBy w' none := by
  obtain ⟨ad, c, hv, hlc, hc, hr⟩ := id h
  subst hv
  obtain ⟨p1, p2, p3, p4, p5, p6, p7⟩ := chk_parts hk
  have GA : ∀ o, w.grownBy (w.alloc o) none := fun o => World.grownBy_alloc w o none
  have CK : Hid (∀ W, w.grownBy W none → _) := fun W g => check_any b k _ l W (h.grown g)
  have EA : Hid (∀ W, _) := fun W => end_any b k ad l.length c W p1 p2 p5
  have TA : Hid (∀ W, w.grownBy W none → _) := fun W g => termAt_any b k (b + (l.length : Int)) _ l W (h.grown g) p1 p2 (by omega) (by omega) p5
  have BK : Hid (∀ {W : World}, (w.alloc (.cells #[.int .i64 b, .int .i64 k, .slice ad l.length c] 25)).grownBy W none → _) := fun {W} g => box_kept g
  rw [tm_end] at TA
  rw [hk] at CK
  unfold new
  clear h hr hk p7
  generalize lastT k l = y at *
  generalize l.length = N at *
  by_cases h1 : y < q
  · rw [decide_eq_true h1, Bool.true_or]
    go_enter Try.func52, Try.ntmps52
    go_wp2_with (first
      | (go_at_call 44; (with_reducible refine (CK.out _ (GA _)).mono ?_); rintro e w1 ⟨rfl, g1⟩; obtain ⟨c0, c1, c2⟩ := BK.out g1)
      | (go_at_call 62; (with_reducible refine (EA.out _).mono ?_); rintro e w2 ⟨rfl, g2⟩; have G2 := grown_tr g1 g2; obtain ⟨c3, c4, c5⟩ := BK.out G2)
      | (go_at_call 63; (with_reducible refine (TA.out _ (grown_tr (GA _) G2)).mono ?_); rintro e w3 ⟨rfl, g3⟩))
    go_ret
    exact ⟨rfl, grown_tr (GA _) (grown_tr G2 g3)⟩
  · rw [decide_eq_false h1, Bool.false_or]
    by_cases h2 : q = y
    · rw [decide_eq_true h2, Bool.true_and]
      subst h2
      go_enter Try.func52, Try.ntmps52
      go_wp2_with (first
        | (go_at_call 44; (with_reducible refine (CK.out _ (GA _)).mono ?_); rintro e w1 ⟨rfl, g1⟩; obtain ⟨c0, c1, c2⟩ := BK.out g1)
        | (go_at_call 62; (with_reducible refine (EA.out _).mono ?_); rintro e w2 ⟨rfl, g2⟩; have G2 := grown_tr g1 g2; obtain ⟨c3, c4, c5⟩ := BK.out G2)
        | (go_at_call 63; (with_reducible refine (TA.out _ (grown_tr (GA _) G2)).mono ?_); rintro e w3 ⟨rfl, g3⟩))
      go_ret
      exact ⟨rfl, grown_tr (GA _) (grown_tr G2 g3)⟩
    · rw [decide_eq_false h2, Bool.false_and]
      have e2 : (q == y) = false := by simpa using h2
      go_enter Try.func52, Try.ntmps52
      go_wp2_with (first
        | (go_at_call 44; (with_reducible refine (CK.out _ (GA _)).mono ?_); rintro e w1 ⟨rfl, g1⟩; obtain ⟨c0, c1, c2⟩ := BK.out g1)
        | (go_at_call 62; (with_reducible refine (EA.out _).mono ?_); rintro e w2 ⟨rfl, g2⟩; have G2 := grown_tr g1 g2; obtain ⟨c3, c4, c5⟩ := BK.out G2)
        | (go_at_call 63; (with_reducible refine (TA.out _ (grown_tr (GA _) G2)).mono ?_); rintro e w3 ⟨rfl, g3⟩))
      go_ret
      exact ⟨ret_bool (decide_eq_false (by omega)), grown_tr (GA _) (grown_tr G2 g3)⟩
end Go.Proofs.Ytdpcebaggldaiaa
