/- Look, Put, Join. -/
import Derived.Test.YtdekeibnehoeaaaSSeat
namespace Go.Proofs.Ytdekeibnehoeaaa
open Go.RowKit Sea
set_option linter.unusedVariables false
set_option maxRecDepth 10000

/-- A book's clients rise, and it is short. -/
theorem chk_rows {X : List (Sn × S3)} (h : chk (X.map (·.1)) = true) : (X.Pairwise fun p q => p.1.cl < q.1.cl) ∧ X.length ≤ 64 := by
  refine ⟨(List.pairwise_map (f := fun x : Sn × S3 => x.1) (R := fun p q : Sn => p.cl < q.cl)).1 (chk_iff.1 h).2, ?_⟩
  have := chk_len h
  simpa using this
/-- What Put and Join leave: a book in new memory, an error. -/
def PutA (w : World) (L : List Sn) (er : Int) (e : Ending) (w' : World) : Prop :=
  ∃ u : S3, e = .returned (.tuple #[.slice u.a u.n u.c, .int .i64 er]) ∧ ∃ Y, Bk w' (.slice u.a u.n u.c) Y ∧ Y.map (·.1) = L ∧ w.grownBy w' none
/-- Put's book lies in new memory. -/
def Fr (w : World) (v : Value) (Y : List (Sn × S3)) : Prop := (∀ k, v.ownBlock = some k → w.heap.size ≤ k) ∧ ∀ x ∈ Y, x.1.js ≠ [] → ∀ k, (Value.slice x.2.a x.2.n x.2.c).ownBlock = some k → w.heap.size ≤ k
theorem fr_nil (w : World) : Fr w (.slice nil3.a nil3.n nil3.c) [] := ⟨fun k hk => by simp [nil3, Value.ownBlock] at hk, by simp⟩
def PutN (w : World) (L : List Sn) (er : Int) (e : Ending) (w' : World) : Prop :=
  ∃ u : S3, e = .returned (.tuple #[.slice u.a u.n u.c, .int .i64 er]) ∧ ∃ Y, Bk w' (.slice u.a u.n u.c) Y ∧ Y.map (·.1) = L ∧ w.grownBy w' none ∧ Fr w (.slice u.a u.n u.c) Y
set_option maxRecDepth 100000 in
set_option maxHeartbeats 1600000 in
theorem Put_new (v : Value) (X : List (Sn × S3)) (s : Sn) (u : S3) (w : World) (h : Bk w v X) (hl : X.length ≤ 9223372036854775807) (hr : Rdj w u s.js) :
    Calls Try.prog 10 #[v, sv s u] w fun e w' => PutN w (putL (X.map (·.1)) s) (putE (X.map (·.1)) s) e w' := by
  have CK : Hid (∀ W, w.grownBy W none → _) := fun W g => check_any v X W (h.1.grown g) hl
  have MA := may_any s.cl s.sq
  obtain ⟨W1, hW1⟩ : ∃ W1, W1 = w.alloc (.cells #[.int .i64 s.cl, .int .i64 s.sq, .int .i64 s.er, .int .i64 s.tm, .slice u.a u.n u.c] 28) := ⟨_, rfl⟩
  have HW1 : Hid (W1 = _) := hW1
  have G1 : Hid (w.grownBy W1 none) := by rw [hW1]; exact World.grownBy_alloc w _ none
  have BX : Hid (∀ W, W1.grownBy W none → W.rangeAt w.heap.size 0 (sc (s, u))) := fun W g => by rw [hW1] at g; exact box_s g
  clear hW1
  cases hc : chk (X.map (·.1)) with
  | false =>
    have e1 : putE (X.map (·.1)) s = 4 := by unfold putE; rw [if_pos hc]
    have e2 : putL (X.map (·.1)) s = [] := by unfold putL; rw [e1, if_neg (by decide)]
    rw [e1, e2]
    rw [hc] at CK
    obtain ⟨ad, cp, hv⟩ := h.form
    subst hv
    clear h hr hc e1 e2 MA
    generalize X.length = N at *
    go_enter Try.func10, Try.ntmps10
    go_wp2_with (go_at_call 12; rw [← HW1.out]; (with_reducible refine (CK.out _ G1.out).mono ?_); rintro e w2 ⟨rfl, g2⟩)
    go_ret2
    exact ⟨nil3, rfl, [], bk_nil _, rfl, grown_tr G1.out g2, fr_nil _⟩
  | true =>
    rw [hc] at CK
    cases hm : may s.cl s.sq with
    | false =>
      have e1 : putE (X.map (·.1)) s = 1 := by unfold putE; rw [if_neg (by rw [hc]; decide), if_pos hm]
      have e2 : putL (X.map (·.1)) s = [] := by unfold putL; rw [e1, if_neg (by decide)]
      rw [e1, e2]
      rw [hm] at MA
      obtain ⟨ad, cp, hv⟩ := h.form
      subst hv
      clear h hr hc e1 e2 hm
      generalize X.length = N at *
      go_enter Try.func10, Try.ntmps10
      go_wp2_with (first
        | (go_at_call 12; rw [← HW1.out]; (with_reducible refine (CK.out _ G1.out).mono ?_); rintro e w2 ⟨rfl, g2⟩; obtain ⟨s0, s1, _⟩ := range_cells (BX.out w2 g2))
        | (go_at_call 18; (with_reducible refine (MA _).mono ?_); rintro e w3 ⟨rfl, rfl⟩))
      go_ret2
      exact ⟨nil3, rfl, [], bk_nil _, rfl, grown_tr G1.out g2, fr_nil _⟩
    | true =>
      obtain ⟨hp, h64⟩ := chk_rows hc
      have e1 : putE (X.map (·.1)) s = if newer (X.map (·.1)) s = true then 0 else 160 := by unfold putE; rw [if_neg (by rw [hc]; decide), if_neg (by rw [hm]; decide)]
      rw [hm] at MA
      have CO : Hid (∀ W, w.grownBy W none → _) := fun W g => copies_any v X W (h.grown g) (by omega)
      have SE := seated_any
      have HH : Hid (Bk w v X) := h
      have HR : Hid (Rdj w u s.js) := hr
      have HP : Hid (X.Pairwise fun p q => p.1.cl < q.1.cl) := hp
      have HE : Hid (putE (X.map (·.1)) s = if newer (X.map (·.1)) s = true then 0 else 160) := e1
      have HL : Hid (X.length ≤ 64) := h64
      obtain ⟨ad, cp, hv⟩ := h.form
      subst hv
      clear h hr hc e1 hm hp h64
      generalize hN : X.length = N at *
      have NL : Hid (X.length = N) := hN
      clear hN
      go_enter Try.func10, Try.ntmps10
      go_wp2_with (first
        | (go_at_call 12; rw [← HW1.out]; (with_reducible refine (CK.out _ G1.out).mono ?_); rintro e w2 ⟨rfl, g2⟩; obtain ⟨s0, s1, _⟩ := range_cells (BX.out w2 g2))
        | (go_at_call 18; (with_reducible refine (MA _).mono ?_); rintro e w3 ⟨rfl, rfl⟩))
      obtain ⟨_, _, s2, s3, s4⟩ := range_cells (BX.out w3 g2)
      have G3 : Hid (w.grownBy w3 none) := grown_tr G1.out g2
      have HW3 : Hid (W1.grownBy w3 none) := g2
      clear g2
      go_region_with (first
        | (go_at_call 23; (with_reducible refine (CO.out _ (by repeat (first | exact G3.out | (with_reducible refine grown_drew ?_) | (with_reducible refine grown_drewN ?_ _)))).mono ?_); rintro e w4 ⟨u4, rfl, Y, O4, EY, g4⟩; have G4 : Hid (w3.grownBy w4 none) := (by refine grown_tr ?_ g4; repeat (first | (with_reducible exact grown_refl _ _) | (with_reducible refine grown_drew ?_) | (with_reducible refine grown_drewN ?_ _))); obtain ⟨z0, z1, z2, z3, z4⟩ := range_cells (BX.out w4 (grown_tr HW3.out G4.out)); have O4' : Hid (Ob w4 w3.heap.size (.slice u4.a u4.n u4.c) Y) := O4; have EY' : Hid (Y.map (·.1) = X.map (·.1)) := EY; clear O4 EY g4)
        | (go_at_call 22; (with_reducible refine (SE _ Y s u _ w3.heap.size (O4'.out.grown (by repeat (first | (with_reducible exact grown_refl _ _) | (with_reducible refine grown_drew ?_) | (with_reducible refine grown_drewN ?_ _)))) (by have := G4.out.size; simpa using this) (by have h1 := congrArg List.length EY'.out; have h2 := HL.out; have h3 := NL.out; simp at h1; omega) (HR.out.grown (by refine grown_tr G3.out ?_; repeat (first | exact G4.out | (with_reducible refine grown_drew ?_) | (with_reducible refine grown_drewN ?_ _)))) ((List.pairwise_map (f := fun x : Sn × S3 => x.1) (R := fun p q : Sn => p.cl < q.cl)).1 (by rw [EY'.out]; exact List.pairwise_map.2 HP.out))).mono ?_); rintro e w5 ⟨u5, rfl, Z, OZ, EZ, g5⟩))
      all_goals
        have E5 : newer (Y.map (·.1)) s = newer (X.map (·.1)) s := by rw [EY'.out]
        rw [E5]
        have g35 : w3.grownBy w5 none := grown_more G4.out (by exact g5) (fun k hk => .inr (by have h1 := (O4'.out.own.lt k hk).1; exact h1))
        have G5 : Hid (w.grownBy w5 none) := grown_tr G3.out g35
        have OZ' : Hid (Bk w5 (.slice u5.a u5.n u5.c) Z) := OZ.bk
        have FZ : Hid (Fr w (.slice u5.a u5.n u5.c) Z) := (⟨fun k hk => Nat.le_trans G3.out.size (OZ.own.lt k hk).1, fun x hx hj k hk => Nat.le_trans G3.out.size (OZ.low x hx hj k hk)⟩ : _ ∧ _)
        have EZ' : Hid (Z.map (·.1) = put1 (X.map (·.1)) s) := by rw [← EY'.out]; exact EZ
        clear E5 g5 g35 OZ EZ
        generalize hn : newer (X.map (·.1)) s = nb
        have HE2 : Hid (putE (X.map (·.1)) s = if nb = true then 0 else 160) := by rw [← hn]; exact HE.out
        clear hn
        cases nb with
        | false =>
          have e1 : Hid (putE (X.map (·.1)) s = 160) := HE2.out
          go_wp2_with fail
          go_ret2
          refine ⟨nil3, by rw [e1.out]; rfl, [], bk_nil _, ?_, G5.out, fr_nil _⟩
          unfold putL
          rw [e1.out, if_neg (by decide)]
          rfl
        | true =>
          have e1 : Hid (putE (X.map (·.1)) s = 0) := HE2.out
          go_wp2_with fail
          go_ret2
          refine ⟨u5, by rw [e1.out]; rfl, Z, OZ'.out, ?_, G5.out, FZ.out⟩
          unfold putL
          rw [e1.out, if_pos rfl]
          exact EZ'.out
theorem Put_any (v : Value) (X : List (Sn × S3)) (s : Sn) (u : S3) (w : World) (h : Bk w v X) (hl : X.length ≤ 9223372036854775807) (hr : Rdj w u s.js) :
    Calls Try.prog 10 #[v, sv s u] w fun e w' => PutA w (putL (X.map (·.1)) s) (putE (X.map (·.1)) s) e w' :=
  (Put_new v X s u w h hl hr).mono fun e w' ⟨u, he, Y, h1, h2, h3, _⟩ => ⟨u, he, Y, h1, h2, h3⟩
set_option maxRecDepth 100000 in
theorem field_r (s : Sn) (u : S3) (W : World) : (Instr.field 28 (sv s u) 2).run Try.prog W = .ok (rv s u) W := by kernel_rfl
/-- What Look leaves. -/
def LookA (w : World) (s : Sn) (er : Int) (e : Ending) (w' : World) : Prop :=
  ∃ u : S3, e = .returned (.tuple #[rv s u, .int .i64 er]) ∧ Rdj w' u s.js ∧ w.grownBy w' none
theorem load_r {w : World} {q : Nat} {er tm : Int} {u : S3} (h : Cs w q [.int .i64 er, .int .i64 tm, .slice u.a u.n u.c]) : w.cell? ⟨q, 0, none⟩ = some (.int .i64 er) ∧ w.cell? ⟨q, 1, none⟩ = some (.int .i64 tm) ∧ w.cell? ⟨q, 2, none⟩ = some (.slice u.a u.n u.c) :=
  ⟨h.1 0 _ rfl, h.1 1 _ rfl, h.1 2 _ rfl⟩
set_option maxRecDepth 100000 in
set_option maxHeartbeats 1600000 in
theorem Look_any (v : Value) (X : List (Sn × S3)) (c q : Int) (w : World) (h : Bk w v X) (hl : X.length ≤ 9223372036854775807) :
    Calls Try.prog 8 #[v, .int .i64 c, .int .i64 q] w fun e w' => LookA w (lookS (X.map (·.1)) c q) (lookE (X.map (·.1)) c q) e w' := by
  have CK : Hid (∀ W, w.grownBy W none → _) := fun W g => check_any v X W (h.1.grown g) hl
  have MA := may_any c q
  obtain ⟨W1, hW1⟩ : ∃ W1, W1 = w.alloc (.cells #[.int .i64 0, .int .i64 0, .slice none 0 0] 26) := ⟨_, rfl⟩
  have HW1 : Hid (W1 = _) := hW1
  have G1 : Hid (w.grownBy W1 none) := by rw [hW1]; exact World.grownBy_alloc w _ none
  have SZ : Hid (w.heap.size < W1.heap.size) := by rw [hW1]; show _ < _; simp
  have BX : Hid (∀ W, W1.grownBy W none → Cs W w.heap.size [.int .i64 0, .int .i64 0, .slice none 0 0]) := fun W g => by rw [hW1] at g; exact cs_new g
  have TH : Hid (∀ W, W1.grownBy W none → W.there w.heap.size 0 3) := fun W g => (BX.out W g).there (by simp)
  have LO : Hid (∀ (W w3 : World) (vs : List Value), W1.grownBy W none → w3 = W.setCells w.heap.size 0 vs → vs.length = 3 → w3.rangeAt w.heap.size 0 vs ∧ w.grownBy w3 none) := fun W w3 vs g e hv => by
    rw [e]
    exact ⟨((BX.out W g).sets vs hv).1, grown_more (grown_tr G1.out g) (grown_setCells _ _ _ _) (fun k e => .inr (by injection e with e; omega))⟩
  -- what is answered where there is an error
  have RS : ∀ er : Int, lookE (X.map (·.1)) c q = er → er ≠ 0 → lookS (X.map (·.1)) c q = zeroS := fun er e h => by unfold lookS; rw [e, if_neg h]
  have FIN : Hid (∀ (W w3 : World) (a : Act) (er : Int), W1.grownBy W none → w3 = W.setCells w.heap.size 0 [.int .i64 0, .int .i64 0, .slice none 0 0] → er ≠ 0 → lookE (X.map (·.1)) c q = er → a.defers = [] → a.tmps.getD 6 undef = .pointer (some ⟨w.heap.size, 0, none⟩) → a.tmps.getD 7 undef = .int .i64 er → bodyPost Try.prog Try.f8 (fun e w' => LookA w (lookS (X.map (·.1)) c q) (lookE (X.map (·.1)) c q) e w') .ret a w3) := fun W w3 a er g e3 h0 he hd h6 h7 => by
    obtain ⟨r3, g3⟩ := LO.out W w3 _ g e3 rfl
    refine bodyPost_ret (v := .tuple #[rv zeroS nil3, .int .i64 er]) ?_ hd ?_
    · have := res_row2 (P := Try.prog) (fn := Try.f8) (p := 6) (u := 7) (ty := 26) (w := w3) (tmps := a.tmps) rfl h6 r3 Try.underlying26 rfl (by kernel_rfl)
      rw [h7] at this
      exact this
    · rw [he, RS er he h0]
      exact ⟨nil3, rfl, rdj_nil _, g3⟩
  clear hW1 RS
  cases hc : chk (X.map (·.1)) with
  | false =>
    have e1 : lookE (X.map (·.1)) c q = 4 := by unfold lookE; rw [if_pos hc]
    have HE : Hid (lookE (X.map (·.1)) c q = 4) := e1
    rw [hc] at CK
    obtain ⟨ad, cp, hv⟩ := h.form
    subst hv
    clear h hc e1 MA
    generalize X.length = N at *
    go_enter Try.func8, Try.ntmps8
    go_wp2_with (first
      | (go_at_call 12; rw [← HW1.out]; (with_reducible refine (CK.out _ G1.out).mono ?_); rintro e w2 ⟨rfl, g2⟩)
      | (refine store_row (ty := 26) w.heap.size 0 #[.int .i64 0, .int .i64 0, .slice none 0 0] rfl rfl (TH.out w2 g2) (by kernel_rfl) (by simp [Value.oneCell']) ?_; intro w3 hw3; have H3 : Hid (w3 = _) := hw3; clear hw3))
    exact FIN.out w2 w3 _ 4 g2 H3.out (by decide) HE.out rfl rfl rfl
  | true =>
    rw [hc] at CK
    cases hm : may c q with
    | false =>
      have e1 : lookE (X.map (·.1)) c q = 1 := by unfold lookE; rw [if_neg (by rw [hc]; decide), if_pos hm]
      have HE : Hid (lookE (X.map (·.1)) c q = 1) := e1
      rw [hm] at MA
      obtain ⟨ad, cp, hv⟩ := h.form
      subst hv
      clear h hc e1 hm
      generalize X.length = N at *
      go_enter Try.func8, Try.ntmps8
      go_wp2_with (first
        | (go_at_call 12; rw [← HW1.out]; (with_reducible refine (CK.out _ G1.out).mono ?_); rintro e w2 ⟨rfl, g2⟩)
        | (go_at_call 18; (with_reducible refine (MA _).mono ?_); rintro e w4 ⟨rfl, rfl⟩)
        | (refine store_row (ty := 26) w.heap.size 0 #[.int .i64 0, .int .i64 0, .slice none 0 0] rfl rfl (TH.out _ g2) (by kernel_rfl) (by simp [Value.oneCell']) ?_; intro w3 hw3; have H3 : Hid (w3 = _) := hw3; clear hw3))
      exact FIN.out _ w3 _ 1 g2 H3.out (by decide) HE.out rfl rfl rfl
    | true =>
      obtain ⟨hp, h64⟩ := chk_rows hc
      rw [hm] at MA
      have e0 : lookE (X.map (·.1)) c q = match lk (X.map (·.1)) c with
        | none => 60
        | some x => if x.sq < q then 60 else if q < x.sq then 160 else 0 := by unfold lookE; rw [if_neg (by rw [hc]; decide), if_neg (by rw [hm]; decide)]; rfl
      have FI : Hid (∀ W, w.grownBy W none → _) := fun W g => find_any v X c W (h.1.grown g) hp (by omega)
      have HH : Hid (Bk w v X) := h
      cases ht : there (fun x : Sn × S3 => x.1.cl) X c with
      | false =>
        have htm : there Sn.cl (X.map (·.1)) c = false := by rw [← there_map (f := Sn.cl) (fun x : Sn × S3 => x.1)]; exact ht
        have HE : Hid (lookE (X.map (·.1)) c q = 60) := by rw [e0, lk_none htm]; exact rfl
        rw [ht] at FI
        obtain ⟨ad, cp, hv⟩ := h.form
        subst hv
        clear h hc hm e0 htm ht hp h64
        generalize pos (fun x : Sn × S3 => x.1.cl) X c = pp at *
        generalize X.length = N at *
        go_enter Try.func8, Try.ntmps8
        go_wp2_with (first
          | (go_at_call 12; rw [← HW1.out]; (with_reducible refine (CK.out _ G1.out).mono ?_); rintro e w2 ⟨rfl, g2⟩)
          | (go_at_call 18; (with_reducible refine (MA _).mono ?_); rintro e w4 ⟨rfl, rfl⟩)
          | (go_at_call 19; (with_reducible refine (FI.out _ (grown_tr G1.out g2)).mono ?_); rintro e w5 ⟨rfl, g5⟩; have g6 := grown_tr g2 g5)
          | (refine store_row (ty := 26) w.heap.size 0 #[.int .i64 0, .int .i64 0, .slice none 0 0] rfl rfl (TH.out _ g6) (by kernel_rfl) (by simp [Value.oneCell']) ?_; intro w3 hw3; have H3 : Hid (w3 = _) := hw3; clear hw3))
        exact FIN.out _ w3 _ 60 g6 H3.out (by decide) HE.out rfl rfl rfl
      | true =>
        obtain ⟨⟨y, yu⟩, hy, hyc⟩ := there_at (f := fun x : Sn × S3 => x.1.cl) hp ht
        have hpm : (X.map (·.1)).Pairwise fun p q => p.cl < q.cl := List.pairwise_map.2 hp
        have hym : y ∈ X.map (·.1) := List.mem_map.2 ⟨(y, yu), List.mem_of_getElem? hy, rfl⟩
        have hlk := lk_at hpm hym hyc
        rw [hlk] at e0
        replace e0 : lookE (X.map (·.1)) c q = if y.sq < q then 60 else if q < y.sq then 160 else 0 := e0
        rw [ht] at FI
        have CA : Hid (∀ W, w.grownBy W none → _) := fun W g => copied_any y yu W ((h.2 (y, yu) (List.mem_of_getElem? hy)).grown g)
        obtain ⟨pp, hpp⟩ : ∃ pp, pos (fun x : Sn × S3 => x.1.cl) X c = pp := ⟨_, rfl⟩
        rw [hpp] at FI hy
        have hlt : pp < X.length := (List.getElem?_eq_some_iff.1 hy).1
        obtain ⟨ad, cp, hv⟩ := h.form
        subst hv
        obtain ⟨g, o, e1, _⟩ := range_at h.1 hy
        subst e1
        have HY : Hid (∀ W, w.grownBy W none → W.rangeAt g (o + pp * 5) (sc (y, yu))) := fun W gg => range_in (h.1.grown gg) hy
        have HS : Hid (lookE (X.map (·.1)) c q = 0 → lookS (X.map (·.1)) c q = y) := fun e => by unfold lookS; rw [e, if_pos rfl, hlk]; rfl
        clear h hc hm ht hp h64 hpm hym hlk hpp hy hyc HH
        generalize X.length = N at *
        by_cases hs : y.sq < q
        · have HE : Hid (lookE (X.map (·.1)) c q = 60) := by rw [e0, if_pos hs]; exact rfl
          clear e0
          go_enter Try.func8, Try.ntmps8
          go_wp2_with (first
            | (go_at_call 12; rw [← HW1.out]; (with_reducible refine (CK.out _ G1.out).mono ?_); rintro e w2 ⟨rfl, g2⟩)
            | (go_at_call 18; (with_reducible refine (MA _).mono ?_); rintro e w4 ⟨rfl, rfl⟩)
            | (go_at_call 19; (with_reducible refine (FI.out _ (grown_tr G1.out g2)).mono ?_); rintro e w5 ⟨rfl, g5⟩; have g6 := grown_tr g2 g5; obtain ⟨_, y1, _⟩ := range_cells (HY.out w5 (grown_tr G1.out g6)))
            | (refine store_row (ty := 26) w.heap.size 0 #[.int .i64 0, .int .i64 0, .slice none 0 0] rfl rfl (TH.out _ g6) (by kernel_rfl) (by simp [Value.oneCell']) ?_; intro w3 hw3; have H3 : Hid (w3 = _) := hw3; clear hw3))
          exact FIN.out _ w3 _ 60 g6 H3.out (by decide) HE.out rfl rfl rfl
        · have ds : decide (y.sq < q) = false := decide_eq_false hs
          by_cases hs2 : q < y.sq
          · have HE : Hid (lookE (X.map (·.1)) c q = 160) := by rw [e0, if_neg hs, if_pos hs2]; exact rfl
            clear e0
            go_enter Try.func8, Try.ntmps8
            go_wp2_with (first
              | (go_at_call 12; rw [← HW1.out]; (with_reducible refine (CK.out _ G1.out).mono ?_); rintro e w2 ⟨rfl, g2⟩)
              | (go_at_call 18; (with_reducible refine (MA _).mono ?_); rintro e w4 ⟨rfl, rfl⟩)
              | (go_at_call 19; (with_reducible refine (FI.out _ (grown_tr G1.out g2)).mono ?_); rintro e w5 ⟨rfl, g5⟩; have g6 := grown_tr g2 g5; obtain ⟨_, y1, _⟩ := range_cells (HY.out w5 (grown_tr G1.out g6)))
              | (refine store_row (ty := 26) w.heap.size 0 #[.int .i64 0, .int .i64 0, .slice none 0 0] rfl rfl (TH.out _ g6) (by kernel_rfl) (by simp [Value.oneCell']) ?_; intro w3 hw3; have H3 : Hid (w3 = _) := hw3; clear hw3))
            exact FIN.out _ w3 _ 160 g6 H3.out (by decide) HE.out rfl rfl rfl
          · have ds2 : decide (q < y.sq) = false := decide_eq_false hs2
            have HE : Hid (lookE (X.map (·.1)) c q = 0) := by rw [e0, if_neg hs, if_neg hs2]; exact rfl
            have HS2 : Hid (lookS (X.map (·.1)) c q = y) := HS.out HE.out
            clear e0 FIN
            have FD := field_r y
            go_enter Try.func8, Try.ntmps8
            go_wp2_with (first
              | (go_at_call 12; rw [← HW1.out]; (with_reducible refine (CK.out _ G1.out).mono ?_); rintro e w2 ⟨rfl, g2⟩)
              | (go_at_call 18; (with_reducible refine (MA _).mono ?_); rintro e w4 ⟨rfl, rfl⟩)
              | (go_at_call 19; (with_reducible refine (FI.out _ (grown_tr G1.out g2)).mono ?_); rintro e w5 ⟨rfl, g5⟩; have g6 := grown_tr g2 g5; obtain ⟨_, y1, _⟩ := range_cells (HY.out w5 (grown_tr G1.out g6)))
              | (refine load_s g (o + pp * 5) y yu rfl (HY.out _ (grown_tr G1.out g6)) ?_)
              | (go_at_call 20; (with_reducible refine (CA.out _ (grown_tr G1.out g6)).mono ?_); rintro e w7 ⟨u', rfl, r7, g7, n7⟩; have g8 := grown_tr g6 g7)
              | (refine store_row (ty := 26) w.heap.size 0 #[.int .i64 y.er, .int .i64 y.tm, .slice u'.a u'.n u'.c] rfl rfl (TH.out _ g8) (by kernel_rfl) (by simp [Value.oneCell']) ?_; intro w3 hw3; have H3 : Hid (w3 = _) := hw3; clear hw3))
            obtain ⟨r3, g3⟩ := LO.out w7 w3 _ g8 H3.out rfl
            refine bodyPost_ret (v := .tuple #[rv y u', .int .i64 0]) ?_ rfl ?_
            · exact res_row2 (P := Try.prog) (fn := Try.f8) (p := 6) (u := 7) (ty := 26) rfl rfl r3 Try.underlying26 rfl (by kernel_rfl)
            · rw [HE.out, HS2.out]
              refine ⟨u', rfl, ?_, g3⟩
              have c1 : Chg (fun k => k = w.heap.size) w7 w3 := by
                rw [H3.out]
                exact Chg.of (grown_setCells _ _ _ _) (fun k e => by injection e with e; exact e.symm)
              exact r7.kept c1 (fun _ k hk => by have h1 := n7 k hk; have h2 := g6.size; have h3 := SZ.out; omega)
end Go.Proofs.Ytdekeibnehoeaaa
