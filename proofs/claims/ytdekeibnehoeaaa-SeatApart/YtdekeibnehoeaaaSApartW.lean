/- Two clients' sessions in whatever order: the statement's walk. -/
import Derived.Test.YtdekeibnehoeaaaSAwake
import Derived.Test.YtdekeibnehoeaaaSSame
namespace Go.Proofs.Ytdekeibnehoeaaa
open Go.RowKit Sea
set_option linter.unusedVariables false

theorem box_r2 {w W : World} {s : Sn} {u : S3} {t : TypeId} (g : (w.alloc (.cells #[.int .i64 s.er, .int .i64 s.tm, .slice u.a u.n u.c] t)).grownBy W none) :
    W.cell? ⟨w.heap.size, 0, none⟩ = some (.int .i64 s.er) ∧ W.cell? ⟨w.heap.size, 1, none⟩ = some (.int .i64 s.tm) ∧ W.cell? ⟨w.heap.size, 2, none⟩ = some (.slice u.a u.n u.c) :=
  ⟨(cs_new g).1 0 _ rfl, (cs_new g).1 1 _ rfl, (cs_new g).1 2 _ rfl⟩
/-- Both sessions are put, one behind the other: what is known. -/
theorem apart_math {L : List Sn} {a b : Sn} (hc : chk L = true) (hne : a.cl ≠ b.cl) (ha : putE L a = 0) (hb : putE L b = 0) :
    putL L a = put1 L a ∧ putL L b = put1 L b ∧ putE (put1 L a) b = 0 ∧ putE (put1 L b) a = 0 ∧ putL (put1 L a) b = put1 (put1 L a) b ∧ putL (put1 L b) a = put1 (put1 L a) b ∧ lookE (put1 (put1 L a) b) a.cl a.sq = 0 ∧ lookS (put1 (put1 L a) b) a.cl a.sq = a ∧ lookE (put1 L a) a.cl a.sq = 0 ∧ lookS (put1 L a) a.cl a.sq = a ∧ (put1 (put1 L a) b).length ≤ 64 ∧ L.length ≤ (put1 (put1 L a) b).length ∧ (put1 L a).length ≤ 64 ∧ (put1 L b).length ≤ 64 := by
  have parts : ∀ s : Sn, putE L s = 0 → may s.cl s.sq = true ∧ newer L s = true := fun s h => by
    unfold putE at h
    rw [if_neg (by rw [hc]; decide)] at h
    by_cases h2 : may s.cl s.sq = false
    · rw [if_pos h2] at h; cases h
    · rw [if_neg h2] at h
      by_cases h3 : newer L s = true
      · exact ⟨by simpa using h2, h3⟩
      · rw [if_neg h3] at h; cases h
  obtain ⟨ma, na⟩ := parts a ha
  obtain ⟨mb, nb⟩ := parts b hb
  have ca := chk_put hc ma
  have cb := chk_put hc mb
  have cab := chk_put ca mb
  have hp := (chk_iff.1 hc).2
  have okE : ∀ (M : List Sn) (s : Sn), chk M = true → may s.cl s.sq = true → newer M s = true → putE M s = 0 := fun M s h1 h2 h3 => by
    unfold putE
    rw [if_neg (by rw [h1]; decide), if_neg (by rw [h2]; decide), if_pos h3]
  have okL : ∀ (M : List Sn) (s : Sn), putE M s = 0 → putL M s = put1 M s := fun M s h => by unfold putL; rw [if_pos h]
  have nab : newer (put1 L a) b = true := by unfold newer; rw [lk_put_other (fun e => hne e.symm)]; exact nb
  have nba : newer (put1 L b) a = true := by unfold newer; rw [lk_put_other hne]; exact na
  have l1 : lk (put1 L a) a.cl = some a := lk_put_same hp na
  have l2 : lk (put1 (put1 L a) b) a.cl = some a := by rw [lk_put_other hne]; exact l1
  have okK : ∀ M : List Sn, chk M = true → lk M a.cl = some a → lookE M a.cl a.sq = 0 ∧ lookS M a.cl a.sq = a := fun M h1 h2 => by
    have h3 : lookE M a.cl a.sq = 0 := by
      unfold lookE
      rw [if_neg (by rw [h1]; decide), if_neg (by rw [ma]; decide), h2]
      show (if a.sq < a.sq then (60 : Int) else if a.sq < a.sq then 160 else 0) = 0
      rw [if_neg (by omega), if_neg (by omega)]
    refine ⟨h3, ?_⟩
    unfold lookS
    rw [h3, if_pos rfl, h2]
    rfl
  have e1 := okE _ _ ca mb nab
  have e2 := okE _ _ cb ma nba
  refine ⟨okL _ _ ha, okL _ _ hb, e1, e2, okL _ _ e1, by rw [okL _ _ e2]; exact (put1_swap L hne).symm, (okK _ cab l2).1, (okK _ cab l2).2, (okK _ ca l1).1, (okK _ ca l1).2, chk_len cab, ?_, chk_len ca, chk_len cb⟩
  exact Nat.le_trans (put1_len L a) (put1_len _ b)
theorem Bk.len2 {w : World} {u : S3} {Y : List (Sn × S3)} (h : Bk w (.slice u.a u.n u.c) Y) : u.n = Y.length := by
  obtain ⟨ad, c, e⟩ := h.form
  injection e
namespace seatApart
set_option maxRecDepth 100000 in
set_option maxHeartbeats 6400000 in
theorem walk (w : World) (v0 : Value) (o0 : ∃ X : List (Sn × S3), Bk w v0 X ∧ X.length ≤ 9223372036854775807) (v1 : Value) (o1 : ∃ (s : Sn) (u : S3), v1 = sv s u ∧ Rdj w u s.js) (v2 : Value) (o2 : ∃ (s : Sn) (u : S3), v2 = sv s u ∧ Rdj w u s.js) :
    Calls Try.prog 6 #[v0, v1, v2] w fun e w' => e = .returned (.bool true) ∧ Below w.heap.size w w' := by
  obtain ⟨X, hX, hl⟩ := o0
  obtain ⟨a, ua, rfl, ra⟩ := o1
  obtain ⟨b, ub, rfl, rb⟩ := o2
  have AW : Hid (∀ W, _) := fun W => awake_any W
  have CK : Hid (∀ W, w.grownBy W none → _) := fun W g => check_any v0 X W (hX.1.grown g) hl
  have PA : Hid (∀ W, w.grownBy W none → _) := fun W g => Put_any v0 X a ua W (hX.grown g) hl (ra.grown g)
  have PB : Hid (∀ W, w.grownBy W none → _) := fun W g => Put_any v0 X b ub W (hX.grown g) hl (rb.grown g)
  obtain ⟨W1, hW1⟩ : ∃ W1, W1 = (w.alloc (.cells #[.int .i64 a.cl, .int .i64 a.sq, .int .i64 a.er, .int .i64 a.tm, .slice ua.a ua.n ua.c] 28)).alloc (.cells #[.int .i64 b.cl, .int .i64 b.sq, .int .i64 b.er, .int .i64 b.tm, .slice ub.a ub.n ub.c] 28) := ⟨_, rfl⟩
  have HW1 : Hid (W1 = _) := hW1
  have G1 : Hid (w.grownBy W1 none) := by rw [hW1]; exact grown_tr (World.grownBy_alloc w _ none) (World.grownBy_alloc _ _ none)
  have BA : Hid (∀ W, W1.grownBy W none → W.rangeAt w.heap.size 0 (sc (a, ua))) := fun W g => by rw [hW1] at g; exact box_s (grown_tr (World.grownBy_alloc _ _ none) g)
  have BB : Hid (∀ W, W1.grownBy W none → W.rangeAt (w.heap.size + 1) 0 (sc (b, ub))) := fun W g => by
    rw [hW1] at g
    have := box_s g
    rwa [show (w.alloc (.cells #[.int .i64 a.cl, .int .i64 a.sq, .int .i64 a.er, .int .i64 a.tm, .slice ua.a ua.n ua.c] 28)).heap.size = w.heap.size + 1 by simp] at this
  obtain ⟨ad, cp, hv⟩ := hX.form
  subst hv
  have RA : Hid (∀ W, w.grownBy W none → Rdj W ua a.js) := fun W g => ra.grown g
  have RB : Hid (∀ W, w.grownBy W none → Rdj W ub b.js) := fun W g => rb.grown g
  clear hX ra rb hW1
  cases hc : chk (X.map (·.1)) with
  | false =>
    rw [hc] at CK
    clear hc PA PB
    generalize X.length = N at *
    go_enter Try.func6, Try.ntmps6
    go_wp2_with (first
      | (go_at_call 7; rw [← HW1.out]; (with_reducible refine (AW.out _).mono ?_); rintro e w1 ⟨rfl, g1⟩)
      | (go_at_call 12; (with_reducible refine (CK.out _ (grown_tr G1.out g1)).mono ?_); rintro e w2 ⟨rfl, g2⟩))
    go_ret
    exact ⟨rfl, grown_below (grown_tr G1.out (grown_tr g1 g2))⟩
  | true =>
    rw [hc] at CK
    by_cases hne : a.cl = b.cl
    · have d1 : (a.cl == b.cl) = true := by simpa using hne
      clear hc PA PB hne
      generalize X.length = N at *
      go_enter Try.func6, Try.ntmps6
      go_wp2_with (first
        | (go_at_call 7; rw [← HW1.out]; (with_reducible refine (AW.out _).mono ?_); rintro e w1 ⟨rfl, g1⟩)
        | (go_at_call 12; (with_reducible refine (CK.out _ (grown_tr G1.out g1)).mono ?_); rintro e w2 ⟨rfl, g2⟩; have a0 := (range_cells (BA.out w2 (grown_tr g1 g2))).1; have b0 := (range_cells (BB.out w2 (grown_tr g1 g2))).1))
      go_ret
      exact ⟨rfl, grown_below (grown_tr G1.out (grown_tr g1 g2))⟩
    · have d1 : (a.cl == b.cl) = false := by simpa using hne
      by_cases hok : putE (X.map (·.1)) a = 0 ∧ putE (X.map (·.1)) b = 0
      · obtain ⟨m1, m2, m3, m4, m5, m6, m7, m8, m9, m10, m11, m12, m13, m14⟩ := apart_math hc hne hok.1 hok.2
        rw [hok.1, m1] at PA
        rw [hok.2, m2] at PB
        have M3 : Hid (putE (put1 (X.map (·.1)) a) b = 0 ∧ putL (put1 (X.map (·.1)) a) b = put1 (put1 (X.map (·.1)) a) b) := (⟨m3, m5⟩ : _ ∧ _)
        have M4 : Hid (putE (put1 (X.map (·.1)) b) a = 0 ∧ putL (put1 (X.map (·.1)) b) a = put1 (put1 (X.map (·.1)) a) b) := (⟨m4, m6⟩ : _ ∧ _)
        have M7 : Hid (lookE (put1 (put1 (X.map (·.1)) a) b) a.cl a.sq = 0 ∧ lookS (put1 (put1 (X.map (·.1)) a) b) a.cl a.sq = a) := (⟨m7, m8⟩ : _ ∧ _)
        have M9 : Hid (lookE (put1 (X.map (·.1)) a) a.cl a.sq = 0 ∧ lookS (put1 (X.map (·.1)) a) a.cl a.sq = a) := (⟨m9, m10⟩ : _ ∧ _)
        rw [List.length_map] at m12
        have M11 : Hid ((put1 (put1 (X.map (·.1)) a) b).length ≤ 64 ∧ X.length ≤ (put1 (put1 (X.map (·.1)) a) b).length ∧ (put1 (X.map (·.1)) a).length ≤ 64 ∧ (put1 (X.map (·.1)) b).length ≤ 64) := (⟨m11, m12, m13, m14⟩ : _ ∧ _ ∧ _ ∧ _)
        clear m1 m2 m3 m4 m5 m6 m7 m8 m9 m10 m11 m12 m13 m14 hc hne hok
        generalize put1 (put1 (X.map (·.1)) a) b = V at *
        generalize put1 (X.map (·.1)) a = La at *
        generalize put1 (X.map (·.1)) b = Lb at *
        generalize hN : X.length = N at *
        clear hN
        have t1 : True := trivial
        go_enter Try.func6, Try.ntmps6
        go_upto_region 7 with (first
          | (go_at_call 7; rw [← HW1.out]; (with_reducible refine (AW.out _).mono ?_); rintro e w1 ⟨rfl, g1⟩)
          | (go_at_call 12; (with_reducible refine (CK.out _ (grown_tr G1.out g1)).mono ?_); rintro e w2 ⟨rfl, g2⟩; have h2 := grown_tr g1 g2; have a0 := (range_cells (BA.out w2 h2)).1; have b0 := (range_cells (BB.out w2 h2)).1)
          | (refine load_s w.heap.size 0 a ua rfl (BA.out _ h2) ?_)
          | (go_at_call 10; have _t := t1; (with_reducible refine (PA.out _ (grown_tr G1.out h2)).mono ?_); rintro e w3 ⟨u3, rfl, Y, b3, e3, g3⟩; clear t1)
          | (refine load_s (w.heap.size + 1) 0 b ub rfl (BB.out _ (grown_tr h2 g3)) ?_)
          | (go_at_call 10; (with_reducible refine (PB.out _ (grown_tr G1.out (grown_tr h2 g3))).mono ?_); rintro e w4 ⟨u4, rfl, Z, b4, e4, g4⟩))
        have H4 : Hid (W1.grownBy w4 none) := grown_tr h2 (grown_tr g3 g4)
        have H34 : Hid (w3.grownBy w4 none) := g4
        have PC : Hid (∀ W, w3.grownBy W none → Calls Try.prog 10 #[.slice u3.a u3.n u3.c, sv b ub] W fun e w' => PutA W V 0 e w') := fun W g => by
          have := Put_any _ Y b ub W (b3.grown g) (by have h1 := M11.out.2.2.1; have h2 := congrArg List.length e3; rw [List.length_map] at h2; omega) (RB.out W (grown_tr G1.out (grown_tr (grown_tr h2 g3) g)))
          rwa [e3, M3.out.1, M3.out.2] at this
        have PD : Hid (∀ W, w4.grownBy W none → Calls Try.prog 10 #[.slice u4.a u4.n u4.c, sv a ua] W fun e w' => PutA W V 0 e w') := fun W g => by
          have := Put_any _ Z a ua W (b4.grown g) (by have h1 := M11.out.2.2.2; have h2 := congrArg List.length e4; rw [List.length_map] at h2; omega) (RA.out W (grown_tr G1.out (grown_tr H4.out g)))
          rwa [e4, M4.out.1, M4.out.2] at this
        have LK : Hid (∀ W, w3.grownBy W none → Calls Try.prog 8 #[.slice u3.a u3.n u3.c, .int .i64 a.cl, .int .i64 a.sq] W fun e w' => LookA W a 0 e w') := fun W g => by
          have := Look_any _ Y a.cl a.sq W (b3.grown g) (by have h1 := M11.out.2.2.1; have h2 := congrArg List.length e3; rw [List.length_map] at h2; omega)
          rwa [e3, M9.out.1, M9.out.2] at this
        clear b3 b4 e3 e4 g1 g2 g3 g4 h2 a0 b0 PA PB CK
        have t1 : True := trivial
        go_upto_region 11 with (first
          | (refine load_s (w.heap.size + 1) 0 b ub rfl (BB.out _ H4.out) ?_)
          | (go_at_call 10; have _t := t1; (with_reducible refine (PC.out _ H34.out).mono ?_); rintro e w5 ⟨u5, rfl, Y5, b5, e5, g5⟩; clear t1)
          | (refine load_s w.heap.size 0 a ua rfl (BA.out _ (grown_tr H4.out g5)) ?_)
          | (go_at_call 10; (with_reducible refine (PD.out _ g5).mono ?_); rintro e w6 ⟨u6, rfl, Y6, b6, e6, g6⟩))
        have h5l : Hid (Y5.length ≤ 64) := by have h1 := M11.out.1; have h2 := congrArg List.length e5; rw [List.length_map] at h2; show _ ≤ _; omega
        have LV : Hid (∀ W, w5.grownBy W none → Calls Try.prog 8 #[.slice u5.a u5.n u5.c, .int .i64 a.cl, .int .i64 a.sq] W fun e w' => LookA W a 0 e w') := fun W g => by
          have := Look_any _ Y5 a.cl a.sq W (b5.grown g) (by have := h5l.out; omega)
          rwa [e5, M7.out.1, M7.out.2] at this
        have BS : Hid (∀ W, w6.grownBy W none → _) := fun W g => Books_same _ _ Y5 Y6 W (b5.grown (grown_tr g6 g)) (b6.grown g) (e5.trans e6.symm) (by have := h5l.out; omega)
        have hu5 := b5.len2
        have hge : N ≤ u5.n := by have h1 := M11.out.2.1; have h2 := congrArg List.length e5; rw [List.length_map] at h2; omega
        have H6 : Hid (w4.grownBy w6 none) := grown_tr g5 g6
        have H56 : Hid (w5.grownBy w6 none) := g6
        have K6 : Hid (W1.grownBy w6 none) := grown_tr H4.out (grown_tr g5 g6)
        obtain ⟨a0, a1, _⟩ := range_cells (BA.out w6 K6.out)
        have h64 : u5.n ≤ 64 := by have := h5l.out; omega
        have dge : decide ((N : Int) ≤ (u5.n : Int)) = true := decide_eq_true (by omega)
        obtain ⟨ua5, un5, uc5⟩ := u5
        simp only at hge h64 LV BS dge ⊢
        clear b5 b6 e5 e6 g5 g6 hu5
        go_wp2_with (first
          | (go_at_call 8; (with_reducible refine (LV.out _ H56.out).mono ?_); rintro e w7 ⟨u7, rfl, r7, g7⟩; have BR : Hid (∀ W, (w7.alloc (.cells #[.int .i64 a.er, .int .i64 a.tm, .slice u7.a u7.n u7.c] 26)).grownBy W none → _) := (fun W g => box_r2 g); have h7 : w6.grownBy (w7.alloc (.cells #[.int .i64 a.er, .int .i64 a.tm, .slice u7.a u7.n u7.c] 26)) none := grown_alloc g7 _; obtain ⟨c0, c1, _⟩ := range_cells (BA.out _ (grown_tr K6.out h7)))
          | (go_at_call 8; (with_reducible refine (LK.out _ (grown_tr H34.out (grown_tr H6.out h7))).mono ?_); rintro e w8 ⟨u8, rfl, r8, g8⟩; have BQ : Hid (∀ W, (w8.alloc (.cells #[.int .i64 a.er, .int .i64 a.tm, .slice u8.a u8.n u8.c] 26)).grownBy W none → _) := (fun W g => box_r2 g); have h8 := grown_alloc g8 (.cells #[.int .i64 a.er, .int .i64 a.tm, .slice u8.a u8.n u8.c] 26))
          | (go_at_call 15; (with_reducible refine (BS.out _ (grown_tr h7 h8)).mono ?_); rintro e w9 ⟨rfl, g9⟩; obtain ⟨p0, p1, p2⟩ := BR.out w9 (grown_tr h8 g9); obtain ⟨q0, q1, q2⟩ := BQ.out w9 g9))
        go_ret
        exact ⟨rfl, grown_below (grown_tr G1.out (grown_tr K6.out (grown_tr h7 (grown_tr h8 g9))))⟩
      · generalize hEa : putE (X.map (·.1)) a = Ea at *
        generalize hEb : putE (X.map (·.1)) b = Eb at *
        clear hc hne hEa hEb
        generalize putL (X.map (·.1)) a = La at *
        generalize putL (X.map (·.1)) b = Lb at *
        generalize X.length = N at *
        have t1 : True := trivial
        by_cases hea : Ea = 0
        · have heb : ¬ Eb = 0 := fun e => hok ⟨hea, e⟩
          subst hea
          have d2 : (Eb != 0) = true := by simpa using heb
          clear hok heb
          go_enter Try.func6, Try.ntmps6
          go_wp2_with (first
            | (go_at_call 7; rw [← HW1.out]; (with_reducible refine (AW.out _).mono ?_); rintro e w1 ⟨rfl, g1⟩)
            | (go_at_call 12; (with_reducible refine (CK.out _ (grown_tr G1.out g1)).mono ?_); rintro e w2 ⟨rfl, g2⟩; have h2 := grown_tr g1 g2; have a0 := (range_cells (BA.out w2 h2)).1; have b0 := (range_cells (BB.out w2 h2)).1)
            | (refine load_s w.heap.size 0 a ua rfl (BA.out _ h2) ?_)
            | (go_at_call 10; have _t := t1; (with_reducible refine (PA.out _ (grown_tr G1.out h2)).mono ?_); rintro e w3 ⟨u3, rfl, Y, b3, e3, g3⟩; clear t1)
            | (refine load_s (w.heap.size + 1) 0 b ub rfl (BB.out _ (grown_tr h2 g3)) ?_)
            | (go_at_call 10; (with_reducible refine (PB.out _ (grown_tr G1.out (grown_tr h2 g3))).mono ?_); rintro e w4 ⟨u4, rfl, Z, b4, e4, g4⟩))
          go_ret
          exact ⟨rfl, grown_below (grown_tr G1.out (grown_tr h2 (grown_tr g3 g4)))⟩
        · have d2 : (Ea != 0) = true := by simpa using hea
          clear hok hea
          go_enter Try.func6, Try.ntmps6
          go_wp2_with (first
            | (go_at_call 7; rw [← HW1.out]; (with_reducible refine (AW.out _).mono ?_); rintro e w1 ⟨rfl, g1⟩)
            | (go_at_call 12; (with_reducible refine (CK.out _ (grown_tr G1.out g1)).mono ?_); rintro e w2 ⟨rfl, g2⟩; have h2 := grown_tr g1 g2; have a0 := (range_cells (BA.out w2 h2)).1; have b0 := (range_cells (BB.out w2 h2)).1)
            | (refine load_s w.heap.size 0 a ua rfl (BA.out _ h2) ?_)
            | (go_at_call 10; have _t := t1; (with_reducible refine (PA.out _ (grown_tr G1.out h2)).mono ?_); rintro e w3 ⟨u3, rfl, Y, b3, e3, g3⟩; clear t1)
            | (refine load_s (w.heap.size + 1) 0 b ub rfl (BB.out _ (grown_tr h2 g3)) ?_)
            | (go_at_call 10; (with_reducible refine (PB.out _ (grown_tr G1.out (grown_tr h2 g3))).mono ?_); rintro e w4 ⟨u4, rfl, Z, b4, e4, g4⟩))
          go_ret
          exact ⟨rfl, grown_below (grown_tr G1.out (grown_tr h2 (grown_tr g3 g4)))⟩
end seatApart
end Go.Proofs.Ytdekeibnehoeaaa
