/- slices.Clone; trail's Term, Slice, Append, Cut, Last of any log. -/
import Derived.Test.YtdpcebaggldaiaaTPut
import Derived.Test.YtdpcebaggldaiaaGBase
namespace Go.Proofs.Ytdpcebaggldaiaa
open Go.RowKit Trl
set_option linter.unusedVariables false
set_option maxRecDepth 10000

set_option maxRecDepth 100000 in
theorem cloneK_any (v : Value) (l : List Int) (w : World) (h : eK.Rx w v l) (hl : l.length * 8 ≤ 140737488355328) :
    Calls Try.prog 47 #[v] w fun e w' => ∃ s : S3, e = .returned (.slice s.a s.n s.c) ∧ eK.Own w' w.heap.size (.slice s.a s.n s.c) l ∧ w.grownBy w' none := by
  have hq : ∀ (w : World) (a : Option Addr) (n c n' c' : Nat), (binOp .eql 22 (.slice a n c) (.slice none n' c')).run Try.prog w = .ok (.bool a.isNone) w := fun w a n c n' c' => Lib.run_eql_slice_nil w _ _ a n c n' c' Try.underlying22
  rcases id h with ⟨rfl, rfl⟩ | ⟨a, c, hv, _⟩
  · clear h hl
    go_enter Try.func47, Try.ntmps47
    go_wp2
    go_ret
    exact ⟨⟨none, 0, 0⟩, rfl, Elm.nil _ _, grown_refl _ _⟩
  · subst hv
    have A1 : eK.Own (w.alloc (.cells #[] 3)) w.heap.size (.slice (some ⟨w.heap.size, 0, none⟩) 0 0) [] := Elm.made (E := eK) w #[] 0 w.heap.size rfl (by decide) rfl
    have A2 := h.grown (World.grownBy_alloc w (.cells #[] 3) none)
    have F3 : Hid (∀ {w3 : World}, (w.alloc (.cells #[] 3)).grownBy w3 (some w.heap.size) → w.grownBy w3 none) := fun {w3} g => grown_more (World.grownBy_alloc w _ none) g (fun k e => .inr (by injection e with e; omega))
    obtain ⟨N, hN⟩ : ∃ N, l.length = N := ⟨_, rfl⟩
    have NL : Hid (l.length = N) := hN
    rw [hN] at A2 ⊢
    clear h hN
    go_enter Try.func47, Try.ntmps47
    go_wp2_with (refine Elm.wpList_append (E := eK) rfl (.tmp 5) (.tmp 6) rfl w.heap.size (.slice (some ⟨w.heap.size, 0, none⟩) 0 0) [] rfl A1 (.slice (some a) N c) l rfl A2 (by simp; omega) (by simp [eK]; omega) (by simp) ?_; intro a3 n3 c3 w3 hO3 hg3 hl3; have g3 := F3.out hg3)
    go_ret
    rw [List.nil_append] at hO3
    exact ⟨⟨a3, n3, c3⟩, rfl, hO3, g3⟩
set_option maxRecDepth 100000 in
theorem cloneN_any (v : Value) (l : List Int) (w : World) (h : eN.Rx w v l) (hl : l.length * 8 ≤ 140737488355328) :
    Calls Try.prog 49 #[v] w fun e w' => ∃ s : S3, e = .returned (.slice s.a s.n s.c) ∧ eN.Own w' w.heap.size (.slice s.a s.n s.c) l ∧ w.grownBy w' none := by
  have hq : ∀ (w : World) (a : Option Addr) (n c n' c' : Nat), (binOp .eql 26 (.slice a n c) (.slice none n' c')).run Try.prog w = .ok (.bool a.isNone) w := fun w a n c n' c' => Lib.run_eql_slice_nil w _ _ a n c n' c' Try.underlying26
  rcases id h with ⟨rfl, rfl⟩ | ⟨a, c, hv, _⟩
  · clear h hl
    go_enter Try.func49, Try.ntmps49
    go_wp2
    go_ret
    exact ⟨⟨none, 0, 0⟩, rfl, Elm.nil _ _, grown_refl _ _⟩
  · subst hv
    have A1 : eN.Own (w.alloc (.cells #[] 2)) w.heap.size (.slice (some ⟨w.heap.size, 0, none⟩) 0 0) [] := Elm.made (E := eN) w #[] 0 w.heap.size rfl (by decide) rfl
    have A2 := h.grown (World.grownBy_alloc w (.cells #[] 2) none)
    have F3 : Hid (∀ {w3 : World}, (w.alloc (.cells #[] 2)).grownBy w3 (some w.heap.size) → w.grownBy w3 none) := fun {w3} g => grown_more (World.grownBy_alloc w _ none) g (fun k e => .inr (by injection e with e; omega))
    obtain ⟨N, hN⟩ : ∃ N, l.length = N := ⟨_, rfl⟩
    have NL : Hid (l.length = N) := hN
    rw [hN] at A2 ⊢
    clear h hN
    go_enter Try.func49, Try.ntmps49
    go_wp2_with (refine Elm.wpList_append (E := eN) rfl (.tmp 5) (.tmp 6) rfl w.heap.size (.slice (some ⟨w.heap.size, 0, none⟩) 0 0) [] rfl A1 (.slice (some a) N c) l rfl A2 (by simp; omega) (by simp [eN]; omega) (by simp) ?_; intro a3 n3 c3 w3 hO3 hg3 hl3; have g3 := F3.out hg3)
    go_ret
    rw [List.nil_append] at hO3
    exact ⟨⟨a3, n3, c3⟩, rfl, hO3, g3⟩
set_option maxRecDepth 100000 in
theorem cloneE_any (v : Value) (l : List En) (w : World) (h : eE.Rx w v l) (hl : l.length * 24 ≤ 140737488355328) :
    Calls Try.prog 48 #[v] w fun e w' => ∃ s : S3, e = .returned (.slice s.a s.n s.c) ∧ eE.Own w' w.heap.size (.slice s.a s.n s.c) l ∧ w.grownBy w' none := by
  have hq : ∀ (w : World) (a : Option Addr) (n c n' c' : Nat), (binOp .eql 23 (.slice a n c) (.slice none n' c')).run Try.prog w = .ok (.bool a.isNone) w := fun w a n c n' c' => Lib.run_eql_slice_nil w _ _ a n c n' c' Try.underlying23
  rcases id h with ⟨rfl, rfl⟩ | ⟨a, c, hv, _⟩
  · clear h hl
    go_enter Try.func48, Try.ntmps48
    go_wp2
    go_ret
    exact ⟨⟨none, 0, 0⟩, rfl, Elm.nil _ _, grown_refl _ _⟩
  · subst hv
    have A1 : eE.Own (w.alloc (.cells #[] 34)) w.heap.size (.slice (some ⟨w.heap.size, 0, none⟩) 0 0) [] := Elm.made (E := eE) w #[] 0 w.heap.size rfl (by decide) rfl
    have A2 := h.grown (World.grownBy_alloc w (.cells #[] 34) none)
    have F3 : Hid (∀ {w3 : World}, (w.alloc (.cells #[] 34)).grownBy w3 (some w.heap.size) → w.grownBy w3 none) := fun {w3} g => grown_more (World.grownBy_alloc w _ none) g (fun k e => .inr (by injection e with e; omega))
    obtain ⟨N, hN⟩ : ∃ N, l.length = N := ⟨_, rfl⟩
    have NL : Hid (l.length = N) := hN
    rw [hN] at A2 ⊢
    clear h hN
    go_enter Try.func48, Try.ntmps48
    go_wp2_with (refine Elm.wpList_append (E := eE) rfl (.tmp 5) (.tmp 6) rfl w.heap.size (.slice (some ⟨w.heap.size, 0, none⟩) 0 0) [] rfl A1 (.slice (some a) N c) l rfl A2 (by simp; omega) (by simp [eE]; omega) (by simp) ?_; intro a3 n3 c3 w3 hO3 hg3 hl3; have g3 := F3.out hg3)
    go_ret
    rw [List.nil_append] at hO3
    exact ⟨⟨a3, n3, c3⟩, rfl, hO3, g3⟩
/-- The term of a number that is there, or 0. -/
def tm0 (b k : Int) (l : List En) (n : Int) : Int := if b ≤ n ∧ n ≤ b + (l.length : Int) then tm b k l n else 0
set_option maxRecDepth 100000 in
set_option maxHeartbeats 800000 in
theorem Term_any (b k n : Int) (v : Value) (l : List En) (w : World) (h : Sl w v l) (hk : chk b k l = true) :
    Calls Try.prog 70 #[tv b k v, .int .i64 n] w fun e w' => e = .returned (.tuple #[.int .i64 (tm0 b k l n), .bool (decide (b ≤ n ∧ n ≤ b + (l.length : Int)))]) ∧ w.grownBy w' none := by
  obtain ⟨ad, c, hv, hlc, hc, hr⟩ := id h
  subst hv
  obtain ⟨p1, p2, p3, p4, p5, p6, p7⟩ := chk_parts hk
  have GA : ∀ o, w.grownBy (w.alloc o) none := fun o => World.grownBy_alloc w o none
  have CK : Hid (∀ W, w.grownBy W none → _) := fun W g => check_any b k _ l W (h.grown g)
  have HA : Hid (∀ W, _) := fun W => has_any b k n ad l.length c W p1 p2 p5
  have BK : Hid (∀ {W : World}, (w.alloc (.cells #[.int .i64 b, .int .i64 k, .slice ad l.length c] 25)).grownBy W none → _) := fun {W} g => box_kept g
  rw [hk] at CK
  unfold tm0
  by_cases hin : b ≤ n ∧ n ≤ b + (l.length : Int)
  · rw [decide_eq_true hin] at HA ⊢
    rw [if_pos hin]
    have TA : Hid (∀ W, w.grownBy W none → _) := fun W g => termAt_any b k n _ l W (h.grown g) p1 p2 hin.1 hin.2 p5
    generalize tm b k l n = q at *
    clear h hr hk p7
    generalize l.length = N at *
    go_enter Try.func70, Try.ntmps70
    go_wp2_with (first
      | (go_at_call 44; (with_reducible refine (CK.out _ (GA _)).mono ?_); rintro e w1 ⟨rfl, g1⟩; obtain ⟨c0, c1, c2⟩ := BK.out g1)
      | (go_at_call 68; (with_reducible refine (HA.out _).mono ?_); rintro e w2 ⟨rfl, g2⟩; have G2 := grown_tr g1 g2; obtain ⟨c3, c4, c5⟩ := BK.out G2)
      | (go_at_call 63; (with_reducible refine (TA.out _ (grown_tr (GA _) G2)).mono ?_); rintro e w3 ⟨rfl, g3⟩))
    go_ret2
    exact ⟨rfl, grown_tr (GA _) (grown_tr G2 g3)⟩
  · rw [decide_eq_false hin] at HA ⊢
    rw [if_neg hin]
    clear h hr hk p7 hin
    generalize l.length = N at *
    go_enter Try.func70, Try.ntmps70
    go_wp2_with (first
      | (go_at_call 44; (with_reducible refine (CK.out _ (GA _)).mono ?_); rintro e w1 ⟨rfl, g1⟩; obtain ⟨c0, c1, c2⟩ := BK.out g1)
      | (go_at_call 68; (with_reducible refine (HA.out _).mono ?_); rintro e w2 ⟨rfl, g2⟩; have G2 := grown_tr g1 g2; obtain ⟨c3, c4, c5⟩ := BK.out G2))
    go_ret2
    exact ⟨rfl, grown_tr (GA _) G2⟩
set_option maxRecDepth 100000 in
set_option maxHeartbeats 1600000 in
theorem Slice_any (b k n : Int) (v : Value) (l : List En) (w : World) (h : Sl w v l) (hk : chk b k l = true) (hn : b < n) (hn2 : n ≤ b + (l.length : Int) + 1) :
    Calls Try.prog 72 #[tv b k v, .int .i64 n, .int .i64 8] w fun e w' => ∃ s : S3, e = .returned (.slice s.a s.n s.c) ∧ eE.Own w' w.heap.size (.slice s.a s.n s.c) ((l.drop (n - 1 - b).toNat).take 8) ∧ w.grownBy w' none := by
  obtain ⟨ad, c, hv, hlc, hc, hr⟩ := id h
  subst hv
  obtain ⟨p1, p2, p3, p4, p5, p6, p7⟩ := chk_parts hk
  have GA : ∀ o, w.grownBy (w.alloc o) none := fun o => World.grownBy_alloc w o none
  have CK : Hid (∀ W, w.grownBy W none → _) := fun W g => check_any b k _ l W (h.grown g)
  have EA : Hid (∀ W, _) := fun W => end_any b k ad l.length c W p1 p2 p5
  have BK : Hid (∀ {W : World}, (w.alloc (.cells #[.int .i64 b, .int .i64 k, .slice ad l.length c] 25)).grownBy W none → _) := fun {W} g => box_kept g
  rw [hk] at CK
  by_cases hend : b + (l.length : Int) < n
  · have E : (l.drop (n - 1 - b).toNat).take 8 = [] := by rw [List.drop_of_length_le (by omega)]; rfl
    rw [E]
    clear h hr hk p7 E
    generalize l.length = N at *
    go_enter Try.func72, Try.ntmps72
    go_wp2_with (first
      | (go_at_call 44; (with_reducible refine (CK.out _ (GA _)).mono ?_); rintro e w1 ⟨rfl, g1⟩; obtain ⟨c0, c1, c2⟩ := BK.out g1)
      | (go_at_call 62; (with_reducible refine (EA.out _).mono ?_); rintro e w2 ⟨rfl, g2⟩; have G2 := grown_tr g1 g2))
    go_ret
    exact ⟨⟨none, 0, 0⟩, rfl, Elm.nil _ _, grown_tr (GA _) G2⟩
  · have BH : Hid (∀ W, w.grownBy W none → _) := fun W g => behind_any b k (n - 1) _ l W (h.grown g) p1 p2 (by omega) (by omega) p5
    have mx : max n (b + 1) = n := by omega
    obtain ⟨D, hD⟩ : ∃ D, l.drop (n - 1 - b).toNat = D := ⟨_, rfl⟩
    have hDl : Hid (D.length ≤ 4096) := by show _ ≤ _; rw [← hD, List.length_drop]; omega
    rw [hD] at BH ⊢
    have SL : Hid (∀ (k8 : Nat), k8 = min 8 D.length → ∀ (W : World) (a : Option Addr) (m c : Nat), Sl W (.slice a m c) D → ∃ a' c', (∀ W', (Instr.slice 23 (.slice a m c) none (some (.int .i64 (k8 : Int))) none).run Try.prog W' = .ok (.slice a' k8 c') W') ∧ Sl W (.slice a' k8 c') (D.take 8)) := fun k8 hk8 W a m c hs => by
      obtain ⟨a', c', h1, h2⟩ := hs.upto (k := k8) (by omega)
      refine ⟨a', c', h1, ?_⟩
      have : D.take k8 = D.take 8 := by
        rw [hk8, List.take_eq_take_iff]
        omega
      rw [this] at h2
      exact h2
    have LM : Hid (∀ {W : World} {a : Option Addr} {m c : Nat}, Sl W (.slice a m c) D → m = D.length) := fun {W a m c} hs => by obtain ⟨_, _, e, _⟩ := hs; injection e
    have CL : Hid (∀ (W : World) (a : Option Addr) (m c : Nat), Sl W (.slice a m c) (D.take 8) → _) := fun W a m c hs => cloneE_any (.slice a m c) (D.take 8) W hs.rx (by rw [List.length_take]; omega)
    clear h hr hk p7 hD
    generalize D.take 8 = D8 at *
    generalize l.length = N at *
    have wr1 : IntKind.i64.wrap (b + 1) = b + 1 := by rw [IntKind.wrap_i64]; omega
    have wr2 : IntKind.i64.wrap (n - 1) = n - 1 := by rw [IntKind.wrap_i64]; omega
    obtain ⟨M, hM⟩ : ∃ M, D.length = M := ⟨_, rfl⟩
    rw [hM] at LM SL hDl
    clear hM
    by_cases h8 : M < 8
    · have S8 := SL.out M (by omega)
      go_enter Try.func72, Try.ntmps72
      go_wp2_with (first
        | (go_at_call 44; (with_reducible refine (CK.out _ (GA _)).mono ?_); rintro e w1 ⟨rfl, g1⟩; obtain ⟨c0, c1, c2⟩ := BK.out g1)
        | (go_at_call 62; (with_reducible refine (EA.out _).mono ?_); rintro e w2 ⟨rfl, g2⟩; have G2 := grown_tr g1 g2; obtain ⟨c3, c4, c5⟩ := BK.out G2)
        | (go_at_call 77; (with_reducible refine (BH.out _ (grown_tr (GA _) G2)).mono ?_); rintro e w3 ⟨a3, m3, n3, rfl, hS3, g3⟩; have hm3 := LM.out hS3; subst hm3; obtain ⟨a4, c4', hs4, hS4⟩ := S8 _ _ _ _ hS3)
        | (go_at_call 48; (with_reducible refine (CL.out _ _ _ _ hS4).mono ?_); rintro e w5 ⟨s5, rfl, hO5, g5⟩))
      go_ret
      exact ⟨s5, rfl, hO5.low (grown_tr (GA _) (grown_tr G2 g3)).size, grown_tr (GA _) (grown_tr G2 (grown_tr g3 g5))⟩
    · have S8 := SL.out 8 (by omega)
      rw [show ((8 : Nat) : Int) = 8 from rfl] at S8
      go_enter Try.func72, Try.ntmps72
      go_wp2_with (first
        | (go_at_call 44; (with_reducible refine (CK.out _ (GA _)).mono ?_); rintro e w1 ⟨rfl, g1⟩; obtain ⟨c0, c1, c2⟩ := BK.out g1)
        | (go_at_call 62; (with_reducible refine (EA.out _).mono ?_); rintro e w2 ⟨rfl, g2⟩; have G2 := grown_tr g1 g2; obtain ⟨c3, c4, c5⟩ := BK.out G2)
        | (go_at_call 77; (with_reducible refine (BH.out _ (grown_tr (GA _) G2)).mono ?_); rintro e w3 ⟨a3, m3, n3, rfl, hS3, g3⟩; have hm3 := LM.out hS3; subst hm3; obtain ⟨a4, c4', hs4, hS4⟩ := S8 _ _ _ _ hS3)
        | (go_at_call 48; (with_reducible refine (CL.out _ _ _ _ hS4).mono ?_); rintro e w5 ⟨s5, rfl, hO5, g5⟩))
      go_ret
      exact ⟨s5, rfl, hO5.low (grown_tr (GA _) (grown_tr G2 g3)).size, grown_tr (GA _) (grown_tr G2 (grown_tr g3 g5))⟩
end Go.Proofs.Ytdpcebaggldaiaa
