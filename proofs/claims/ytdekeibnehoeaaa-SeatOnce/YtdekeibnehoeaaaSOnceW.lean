/- Each number of a client is done once at most: the statement's walk. -/
import Derived.Test.YtdekeibnehoeaaaSAwake
import Derived.Test.YtdekeibnehoeaaaSOnceM
import Derived.Test.YtdekeibnehoeaaaSSame
namespace Go.Proofs.Ytdekeibnehoeaaa
open Go.RowKit Sea
set_option linter.unusedVariables false

theorem box_r3 {w W : World} {s : Sn} {u : S3} {t : TypeId} (g : (w.alloc (.cells #[.int .i64 s.er, .int .i64 s.tm, .slice u.a u.n u.c] t)).grownBy W none) :
    W.cell? ⟨w.heap.size, 0, none⟩ = some (.int .i64 s.er) ∧ W.cell? ⟨w.heap.size, 1, none⟩ = some (.int .i64 s.tm) ∧ W.cell? ⟨w.heap.size, 2, none⟩ = some (.slice u.a u.n u.c) :=
  ⟨(cs_new g).1 0 _ rfl, (cs_new g).1 1 _ rfl, (cs_new g).1 2 _ rfl⟩
theorem one_new2 (W : World) (x : Sn) (u : S3) : eS.Rx (W.alloc (.cells #[.int .i64 x.cl, .int .i64 x.sq, .int .i64 x.er, .int .i64 x.tm, .slice u.a u.n u.c] 28)) (.slice (some ⟨W.heap.size, 0, none⟩) 1 1) [(x, u)] :=
  Elm.rx_one (E := eS) fun j v hv => by have := box_s (grown_refl (W.alloc (.cells #[.int .i64 x.cl, .int .i64 x.sq, .int .i64 x.er, .int .i64 x.tm, .slice u.a u.n u.c] 28)) none) j v hv; rwa [Nat.zero_add] at this
namespace seatOnce
set_option maxRecDepth 100000 in
set_option maxHeartbeats 6400000 in
theorem walk (w : World) (v0 : Value) (o0 : ∃ X : List (Sn × S3), Bk w v0 X ∧ X.length ≤ 9223372036854775807) :
    Calls Try.prog 5 #[v0] w fun e w' => e = .returned (.bool true) ∧ Below w.heap.size w w' := by
  obtain ⟨A, hA, hla⟩ := o0
  have AW := awake_any w
  have LK := Look_any
  have PU := Put_new
  have CK := check_any
  have RE := Result_any
  have HA : Hid (∀ W, w.grownBy W none → Bk W v0 A) := fun W g => hA.grown g
  obtain ⟨ad, cp, hv⟩ := hA.form
  subst hv
  clear hA
  generalize hN : A.length = N at *
  have NL : Hid (A.length = N) := hN
  clear hN
  go_enter Try.func5, Try.ntmps5
  go_upto_region 4 with (go_at_call 7; (with_reducible refine AW.mono ?_); rintro e w1 ⟨rfl, g1⟩)
  obtain ⟨w2, mk, O2, g2⟩ := make_n w1
  obtain ⟨q, hq⟩ : ∃ q, w1.heap.size = q := ⟨_, rfl⟩
  have S0 : Hid (On w w2 ⟨none, 0, 0⟩ q ⟨none, 0, 0⟩ [] [] (List.replicate 65 0) 0) := by
    rw [hq] at O2
    refine ⟨grown_tr g1 g2, bk_nil _, rfl, O2.low (by rw [← hq]; exact g1.size), by simp, fun c h1 h2 => ?_, Elm.nil _ _, by simp, by simp, by simp, by simp, by simp, by simp [Value.ownBlock]⟩
    rw [List.getElem?_replicate, if_pos (by omega)]
    rfl
  rw [hq] at mk
  clear g1 g2 O2 AW hq
  go_wp2_with fail
  go_loopw [3, 5, 6] (fun b d i wr => ∃ (j : Nat) (ub ud : S3) (X D : List (Sn × S3)) (Ls : List Int), j ≤ N ∧ j ≤ 400 ∧ i = .int .i64 (j : Int) ∧ b = .slice ub.a ub.n ub.c ∧ d = .slice ud.a ud.n ud.c ∧ Hid (On w wr ub q ud X D Ls j)) (fun _ _ i _ => 400 - (intOf i).toNat)
  case atStart => exact ⟨0, ⟨none, 0, 0⟩, ⟨none, 0, 0⟩, [], [], List.replicate 65 0, by omega, by omega, rfl, rfl, rfl, S0⟩
  case round =>
    clear S0 mk
    obtain ⟨j, ub, ud, X, D, Ls, hj, hj4, rfl, rfl, rfl, S⟩ := hrel
    by_cases hlt : j < N
    · by_cases hlt4 : j < 400
      · obtain ⟨⟨s, su⟩, hy⟩ : ∃ y, A[j]? = some y := ⟨_, List.getElem?_eq_getElem (by rw [NL.out]; exact hlt)⟩
        obtain ⟨g, o, e1, r1⟩ := range_at (HA.out wr S.out.g).1 hy
        have RG : Hid (wr.rangeAt g (o + j * 5) (sc (s, su))) := r1
        have RJ : Hid (Rdj w su s.js) := (HA.out w (grown_refl _ _)).2 (s, su) (List.mem_of_getElem? hy)
        obtain ⟨W1, hW1⟩ : ∃ W1, W1 = wr.alloc (.cells #[.int .i64 s.cl, .int .i64 s.sq, .int .i64 s.er, .int .i64 s.tm, .slice su.a su.n su.c] 28) := ⟨_, rfl⟩
        have HW1 : Hid (W1 = _) := hW1
        have G1 : Hid (wr.grownBy W1 none) := by rw [hW1]; exact World.grownBy_alloc wr _ none
        have BX : Hid (∀ W, W1.grownBy W none → W.rangeAt wr.heap.size 0 (sc (s, su))) := fun W g => by rw [hW1] at g; exact box_s g
        obtain ⟨b0, b1, _⟩ := range_cells (BX.out W1 (grown_refl _ _))
        have h64 := chk_len S.out.ck
        rw [List.length_map] at h64
        have LA := LK _ X s.cl s.sq W1 (S.out.bk.grown G1.out) (by omega)
        subst e1
        clear hy r1 hW1 LK h64
        rcases look_cases S.out.ck s with ⟨hm, hE⟩ | ⟨hm, ⟨hE, hn, hl⟩ | ⟨hE, hl, y, hk, hyc, hyq, hyl, hS⟩ | ⟨hE, hl⟩⟩
        · rw [hE] at LA
          clear hm hE PU CK RE
          generalize lookS (X.map (·.1)) s.cl s.sq = S2 at *
          go_wp2_with (first
            | (refine load_s g (o + j * 5) s su rfl RG.out ?_)
            | (go_at_call 8; rw [← HW1.out]; (with_reducible refine LA.mono ?_); rintro e w2 ⟨u2, rfl, r2, g2⟩))
          go_roundw
          case rel => exact ⟨j + 1, ub, ud, X, D, Ls, by omega, by omega, by go_num, rfl, rfl, S.out.more (grown_alloc (grown_tr G1.out g2) _)⟩
          case measure => simp [intOf]; omega
        · have HM : Hid (may s.cl s.sq = true) := hm
          have HNW : Hid (newer (X.map (·.1)) s = true) := hn
          have hcm := may_is.1 hm
          obtain ⟨c, hcc⟩ : ∃ c : Nat, s.cl = (c : Int) := ⟨s.cl.toNat, by omega⟩
          have hc1 : 1 ≤ c := by omega
          have hc2 : c ≤ 64 := by omega
          have HC : Hid (s.cl = (c : Int)) := hcc
          have IX : ∀ W : World, (Instr.indexAt 39 (.slice (some ⟨q, 0, none⟩) 65 65) (.int .i64 s.cl)).run Try.prog W = .ok (.pointer (some ⟨q, c, none⟩)) W := fun W => by
            have := Elm.run_at (E := eN) (W := W) (g := q) (o := 0) (n := 65) (c := 65) (i := c) (by omega) (by omega)
            rw [show 0 + c * eN.size = c by show 0 + c * 1 = c; omega, ← hcc] at this
            exact this
          have LC : Hid (∀ W, wr.grownBy W none → W.cell? ⟨q, c, none⟩ = some (.int .i64 (lastOf (X.map (·.1)) s.cl)) ∧ W.frozen? ⟨q, c, none⟩ = false) := fun W g => by
            have h1 := (S.out.more g).at_ hc1 hc2
            rw [← hcc] at h1
            exact h1
          have dc1 : decide (s.cl < 1) = false := decide_eq_false (by omega)
          have dc2 : decide (64 < s.cl) = false := decide_eq_false (by omega)
          rw [hE] at LA
          clear hE hcc
          have PC : Hid (∀ W, wr.grownBy W none → Calls Try.prog 10 #[.slice ub.a ub.n ub.c, sv s su] W fun e w' => PutN W (put1 (X.map (·.1)) s) 0 e w') := fun W g => by
            have h64 := chk_len S.out.ck
            rw [List.length_map] at h64
            have := PU _ X s su W (S.out.bk.grown g) (by omega) (RJ.out.grown (grown_tr S.out.g g))
            have e0 : putE (X.map (·.1)) s = 0 := by unfold putE; rw [if_neg (by rw [S.out.ck]; decide), if_neg (by rw [HM.out]; decide), if_pos HNW.out]
            have e1 : putL (X.map (·.1)) s = put1 (X.map (·.1)) s := by unfold putL; rw [if_pos e0]
            rwa [e0, e1] at this
          have dl : decide (s.sq ≤ lastOf (X.map (·.1)) s.cl) = false := decide_eq_false (by omega)
          have hq := S.out.lt_
          have HQ : Hid (q < wr.heap.size) := hq.2
          clear hn hl hcm PU CK RE hm hq
          generalize lookS (X.map (·.1)) s.cl s.sq = S2 at *
          generalize lastOf (X.map (·.1)) s.cl = la at *
          go_wp2_with (first
            | (refine load_s g (o + j * 5) s su rfl RG.out ?_)
            | (go_at_call 8; rw [← HW1.out]; (with_reducible refine LA.mono ?_); rintro e w2 ⟨u2, rfl, r2, g2⟩; have g2' : Hid (W1.grownBy (w2.alloc (.cells #[.int .i64 S2.er, .int .i64 S2.tm, .slice u2.a u2.n u2.c] 26)) none) := grown_alloc g2 _; obtain ⟨s0, s1, _⟩ := range_cells (BX.out _ g2'.out); have lc := (LC.out _ (grown_tr G1.out g2'.out)).1))
          go_quiet (fail)
          go_upto_region 24 with (first
            | (refine load_s wr.heap.size 0 s su rfl (BX.out _ (grown_drewN g2'.out _)) ?_)
            | (go_at_call 10; (with_reducible refine (PC.out _ (grown_tr G1.out (grown_drewN g2'.out _))).mono ?_); rintro e w3 ⟨u3, rfl, Y, b3, e3, g3, f3⟩; have g3' : Hid (W1.grownBy w3 none) := grown_tr (grown_drewN g2'.out _) g3; obtain ⟨z0, z1, _⟩ := range_cells (BX.out _ g3'.out); obtain ⟨lz, lf⟩ := LC.out w3 (grown_tr G1.out g3'.out); have FF : Hid _ := (⟨b3, e3, g3, f3⟩ : _ ∧ _ ∧ _ ∧ _); clear b3 e3 g3 f3))
          have BS : Hid ((w3.setCell ⟨q, c, none⟩ (.int .i64 s.sq)).rangeAt wr.heap.size 0 (sc (s, su))) := fun i v hv => by
            rw [set_other (by intro e; injection e with e _ _; have := HQ.out; omega)]
            exact BX.out w3 g3'.out i v hv
          have DS : Hid (∀ ob, eS.Own ((w3.setCell ⟨q, c, none⟩ (.int .i64 s.sq)).alloc ob) w.heap.size (.slice ud.a ud.n ud.c) D) := fun ob =>
            ((S.out.dn.grown (grown_tr G1.out g3'.out)).kept (Chg.of (F := fun k => k = q) (grown_set w3 ⟨q, c, none⟩ (.int .i64 s.sq)) (fun k e => by injection e with e; exact e.symm)) (fun k hk e => S.out.sd (by rw [hk, e]))).grown (World.grownBy_alloc _ _ none)
          have SZ : Hid (w.heap.size ≤ (w3.setCell ⟨q, c, none⟩ (.int .i64 s.sq)).heap.size) := by
            have h1 := S.out.g.size
            have h2 := (grown_tr G1.out g3'.out).size
            have h3 := size_set w3 ⟨q, c, none⟩ (.int .i64 s.sq)
            show _ ≤ _
            omega
          obtain ⟨w4, hw4⟩ : ∃ w4, w4 = w3.setCell ⟨q, c, none⟩ (.int .i64 s.sq) := ⟨_, rfl⟩
          have H4 : Hid (w4 = w3.setCell ⟨q, c, none⟩ (.int .i64 s.sq)) := hw4
          rw [← hw4] at BS DS SZ ⊢
          clear hw4 lz lf z0 z1
          go_wp2_with (first
            | (refine load_s wr.heap.size 0 s su rfl BS.out ?_)
            | (refine Elm.wpList_append (E := eS) rfl (.tmp 76) (.tmp 78) rfl w.heap.size _ D rfl (DS.out _) _ [(s, su)] rfl (one_new2 _ s su) (by have := S.out.dl; simp; omega) (by have := S.out.dl; show (D.length + 1) * 56 ≤ _; omega) (by have := SZ.out; simp; omega) ?_; intro ad2 n2 c2 w5 hO2 hg2 hl2))
          go_roundw
          case rel =>
            obtain ⟨b3, e3, g3, f3⟩ := FF.out
            exact ⟨j + 1, u3, ⟨ad2, n2, c2⟩, Y, D ++ [(s, su)], Ls.set c s.sq, by omega, by omega, by go_num, rfl, rfl, S.out.put (ud' := ⟨ad2, n2, c2⟩) (grown_tr G1.out (grown_drewN g2'.out _)) b3 e3 g3 f3 HM.out HNW.out HC.out RJ.out hO2 (by rw [← H4.out]; exact hg2) (by rw [← H4.out]; exact hl2)⟩
          case measure => simp [intOf]; omega
        · obtain ⟨x0, hx0, ex0⟩ := S.out.dx y hyl
          obtain ⟨i0, hi0⟩ := List.getElem?_of_mem hx0
          have hi0l := (List.getElem?_eq_some_iff.1 hi0).1
          have hcm := may_is.1 hm
          obtain ⟨c, hcc⟩ : ∃ c : Nat, s.cl = (c : Int) := ⟨s.cl.toNat, by omega⟩
          have hc1 : 1 ≤ c := by omega
          have hc2 : c ≤ 64 := by omega
          have HC : Hid (s.cl = (c : Int)) := hcc
          have IX : ∀ W : World, (Instr.indexAt 39 (.slice (some ⟨q, 0, none⟩) 65 65) (.int .i64 s.cl)).run Try.prog W = .ok (.pointer (some ⟨q, c, none⟩)) W := fun W => by
            have := Elm.run_at (E := eN) (W := W) (g := q) (o := 0) (n := 65) (c := 65) (i := c) (by omega) (by omega)
            rw [show 0 + c * eN.size = c by show 0 + c * 1 = c; omega, ← hcc] at this
            exact this
          have LC : Hid (∀ W, wr.grownBy W none → W.cell? ⟨q, c, none⟩ = some (.int .i64 (lastOf (X.map (·.1)) s.cl)) ∧ W.frozen? ⟨q, c, none⟩ = false) := fun W g => by
            have h1 := (S.out.more g).at_ hc1 hc2
            rw [← hcc] at h1
            exact h1
          have dc1 : decide (s.cl < 1) = false := decide_eq_false (by omega)
          have dc2 : decide (64 < s.cl) = false := decide_eq_false (by omega)
          rw [hE] at LA
          clear hE hcc
          rw [hS] at LA
          have dl : (s.sq != lastOf (X.map (·.1)) s.cl) = false := by rw [hl]; simp
          have hdn : ud.n = D.length := S.out.dn.len
          have hdl := S.out.dl
          have YQ : Hid (y.cl = s.cl ∧ y.sq = s.sq) := (⟨hyc, hyq⟩ : _ ∧ _)
          have HI : Hid (∀ z zu, D[i0]? = some (z, zu) → z = y) := fun z zu hz => by
            rw [hi0] at hz
            injection hz with hz
            rw [← ex0, hz]
          have DR : Hid (∀ W, wr.grownBy W none → Bk W (.slice ud.a ud.n ud.c) D) := fun W g => ⟨(S.out.dn.grown g).rx, fun x hx => (S.out.dr x hx).grown (grown_tr S.out.g g)⟩
          have DL : Hid (ud.n = D.length) := hdn
          have HI0 : i0 < ud.n := by omega
          have hud : ud.n ≤ 400 := by omega
          clear hl hcm PU CK hm hk hyc hyq hyl hS hx0 ex0 hi0 hi0l hdn hdl
          generalize lastOf (X.map (·.1)) s.cl = la at *
          obtain ⟨uda, udn, udc⟩ := ud
          simp only at DR DL HI0 hud ⊢
          obtain ⟨bx, hbx⟩ : ∃ bx, wr.heap.size = bx := ⟨_, rfl⟩
          have HBX : Hid (wr.heap.size = bx) := hbx
          clear hbx
          go_wp2_with (first
            | (refine load_s g (o + j * 5) s su rfl RG.out ?_)
            | (go_at_call 8; rw [← HW1.out]; (with_reducible refine LA.mono ?_); rintro e w2 ⟨u2, rfl, r2, g2⟩; have g2' : Hid (W1.grownBy (w2.alloc (.cells #[.int .i64 y.er, .int .i64 y.tm, .slice u2.a u2.n u2.c] 26)) none) := grown_alloc g2 _; obtain ⟨s0, s1, _⟩ := range_cells (BX.out _ g2'.out); have lc := (LC.out _ (grown_tr G1.out g2'.out)).1))
          rw [HBX.out] at s0 s1 ⊢
          rw [HBX.out] at BX
          obtain ⟨W2, hW2⟩ : ∃ W2, W2 = w2.alloc (.cells #[.int .i64 y.er, .int .i64 y.tm, .slice u2.a u2.n u2.c] 26) := ⟨_, rfl⟩
          have G12 : Hid (W1.grownBy W2 none) := by rw [hW2]; exact g2'.out
          have BR : Hid (∀ W, W2.grownBy W none → _) := fun W g => box_r3 (s := y) (u := u2) (w := w2) (t := 26) (by rw [← hW2]; exact g)
          have R2 : Hid (Rdj W2 u2 y.js) := by rw [hW2]; exact r2.grown (World.grownBy_alloc _ _ none)
          have ON : Hid (∀ W, W2.grownBy W none → On w W ub q ⟨uda, udn, udc⟩ X D Ls (j + 1)) := fun W g => S.out.more (grown_tr G1.out (grown_tr G12.out g))
          have DR2 : Hid (∀ W, W2.grownBy W none → Bk W (.slice uda udn udc) D) := fun W g => DR.out W (grown_tr G1.out (grown_tr G12.out g))
          have LC2 : Hid (∀ W, W2.grownBy W none → W.cell? ⟨q, c, none⟩ = some (.int .i64 la)) := fun W g => (LC.out W (grown_tr G1.out (grown_tr G12.out g))).1
          have BX2 : Hid (∀ W, W2.grownBy W none → W.rangeAt bx 0 (sc (s, su))) := fun W g => BX.out W (grown_tr G12.out g)
          obtain ⟨b2, hb2⟩ : ∃ b2, w2.heap.size = b2 := ⟨_, rfl⟩
          rw [← hW2]
          rw [hb2] at BR ⊢
          have G0 : Hid (W2.grownBy W2 none) := grown_refl _ _
          clear hW2 hb2 s0 s1 lc g2' r2 g2 LA DR LC BX RG S b0 b1 HW1
          go_loopw [12, 13] (fun f k wq => ∃ (m : Nat) (fb : Bool), m ≤ udn ∧ k = .int .i64 (m : Int) ∧ f = .bool fb ∧ Hid (i0 < m → fb = true) ∧ Hid (W2.grownBy wq none)) (fun _ k _ => udn - (intOf k).toNat)
          case atStart => exact ⟨0, false, by omega, rfl, rfl, (fun h => absurd h (by omega)), G0⟩
          case round =>
            clear G0
            obtain ⟨m, fb, hm, rfl, rfl, HF, GQ⟩ := hrel
            by_cases hmlt : m < udn
            · obtain ⟨⟨z, zu⟩, hz⟩ : ∃ y, D[m]? = some y := ⟨_, List.getElem?_eq_getElem (by rw [← DL.out]; exact hmlt)⟩
              cases fb with
              | true =>
                clear hz
                go_wp2_with fail
                go_quiet (fail)
                go_wp2_with fail
                go_roundw
                case rel => exact ⟨m + 1, true, by omega, by go_num, rfl, (fun _ => rfl), grown_drewN GQ.out _⟩
                case measure => simp [intOf]; omega
              | false =>
                have hge : Hid (m ≤ i0) := Nat.le_of_not_lt fun h => by have := HF.out h; cases this
                obtain ⟨g1, o1, a1, r1⟩ := range_at (DR2.out _ GQ.out).1 hz
                obtain ⟨z0, z1, z2, z3, z4⟩ := range_cells r1
                obtain ⟨b0, b1, _⟩ := range_cells (BX2.out _ GQ.out)
                have ZY : Hid (m = i0 → z = y) := fun e => HI.out z zu (by rw [← e]; exact hz)
                have RZ : Hid (∀ W, W2.grownBy W none → Rdj W zu z.js) := fun W g => (DR2.out W g).2 (z, zu) (List.mem_of_getElem? hz)
                subst a1
                clear hz r1
                by_cases h1 : z.cl = s.cl
                · have d1 : (z.cl == s.cl) = true := by simpa using h1
                  by_cases h2 : z.sq = s.sq
                  · have d2 : (z.sq == s.sq) = true := by simpa using h2
                    obtain ⟨p0, p1, p2⟩ := BR.out _ GQ.out
                    rename World => wq
                    have RS := RE z y zu u2 wq.drew (RZ.out _ (grown_drew GQ.out)) (R2.out.grown (grown_drew GQ.out))
                    clear h1 h2 RE
                    go_upto_region 30 with fail
                    refine region_tail 27 (by kernel_rfl) (by kernel_rfl) ?_
                    simp only [List.take_succ_cons, List.take_zero, List.drop_succ_cons, List.drop_zero]
                    iterate 27 still_step
                    refine wpStill_nil ?_
                    go_wp2_with (go_at_call 14; (with_reducible refine RS.mono ?_); rintro e w5 ⟨bb, rfl, hbb, g5⟩; have HBB : Hid (z.er = y.er ∧ z.tm = y.tm ∧ z.js = y.js → bb = true) := hbb; clear hbb)
                    go_roundw
                    case rel =>
                      refine ⟨m + 1, bb, by omega, by go_num, rfl, ?_, grown_tr (grown_drew GQ.out) g5⟩
                      exact fun h => HBB.out (by have e : m = i0 := (by have := hge.out; omega); rw [ZY.out e]; exact ⟨rfl, rfl, rfl⟩)
                    case measure => simp [intOf]; omega
                  · have d2 : (z.sq == s.sq) = false := by simpa using h2
                    have HF2 : Hid (i0 < m + 1 → false = true) := fun h => by
                      have e : m = i0 := by have := hge.out; omega
                      exact absurd (by rw [ZY.out e]; exact YQ.out.2) h2
                    clear h1 h2
                    go_wp2_with fail
                    go_quiet (fail)
                    go_wp2_with fail
                    go_roundw
                    case rel => exact ⟨m + 1, false, by omega, by go_num, rfl, HF2, grown_drewN GQ.out _⟩
                    case measure => simp [intOf]; omega
                · have d1 : (z.cl == s.cl) = false := by simpa using h1
                  have HF2 : Hid (i0 < m + 1 → false = true) := fun h => by
                    have e : m = i0 := by have := hge.out; omega
                    exact absurd (by rw [ZY.out e]; exact YQ.out.1) h1
                  clear h1
                  go_wp2_with fail
                  go_quiet (fail)
                  go_wp2_with fail
                  go_roundw
                  case rel => exact ⟨m + 1, false, by omega, by go_num, rfl, HF2, grown_drewN GQ.out _⟩
                  case measure => simp [intOf]; omega
            · obtain rfl : fb = true := HF.out (by omega)
              obtain ⟨b0, b1, _⟩ := range_cells (BX2.out _ GQ.out)
              have lc := LC2.out _ GQ.out
              go_wp2_with fail
              go_quiet (fail)
              go_wp2_with fail
              go_roundw
              case rel => exact ⟨j + 1, ub, ⟨uda, udn, udc⟩, X, D, Ls, by omega, by omega, by go_num, rfl, rfl, ON.out _ (grown_drewN GQ.out _)⟩
              case measure => simp [intOf]; omega
        · have hcm := may_is.1 hm
          obtain ⟨c, hcc⟩ : ∃ c : Nat, s.cl = (c : Int) := ⟨s.cl.toNat, by omega⟩
          have hc1 : 1 ≤ c := by omega
          have hc2 : c ≤ 64 := by omega
          have HC : Hid (s.cl = (c : Int)) := hcc
          have IX : ∀ W : World, (Instr.indexAt 39 (.slice (some ⟨q, 0, none⟩) 65 65) (.int .i64 s.cl)).run Try.prog W = .ok (.pointer (some ⟨q, c, none⟩)) W := fun W => by
            have := Elm.run_at (E := eN) (W := W) (g := q) (o := 0) (n := 65) (c := 65) (i := c) (by omega) (by omega)
            rw [show 0 + c * eN.size = c by show 0 + c * 1 = c; omega, ← hcc] at this
            exact this
          have LC : Hid (∀ W, wr.grownBy W none → W.cell? ⟨q, c, none⟩ = some (.int .i64 (lastOf (X.map (·.1)) s.cl)) ∧ W.frozen? ⟨q, c, none⟩ = false) := fun W g => by
            have h1 := (S.out.more g).at_ hc1 hc2
            rw [← hcc] at h1
            exact h1
          have dc1 : decide (s.cl < 1) = false := decide_eq_false (by omega)
          have dc2 : decide (64 < s.cl) = false := decide_eq_false (by omega)
          rw [hE] at LA
          clear hE hcc
          have dl : decide (lastOf (X.map (·.1)) s.cl ≤ s.sq) = false := decide_eq_false (by omega)
          clear hl hcm PU CK RE hm
          generalize lookS (X.map (·.1)) s.cl s.sq = S2 at *
          generalize lastOf (X.map (·.1)) s.cl = la at *
          go_wp2_with (first
            | (refine load_s g (o + j * 5) s su rfl RG.out ?_)
            | (go_at_call 8; rw [← HW1.out]; (with_reducible refine LA.mono ?_); rintro e w2 ⟨u2, rfl, r2, g2⟩; have g2' : Hid (W1.grownBy (w2.alloc (.cells #[.int .i64 S2.er, .int .i64 S2.tm, .slice u2.a u2.n u2.c] 26)) none) := grown_alloc g2 _; obtain ⟨s0, s1, _⟩ := range_cells (BX.out _ g2'.out); have lc := (LC.out _ (grown_tr G1.out g2'.out)).1))
          go_quiet (fail)
          go_wp2_with fail
          go_roundw
          case rel => exact ⟨j + 1, ub, ud, X, D, Ls, by omega, by omega, by go_num, rfl, rfl, S.out.more (grown_tr G1.out (grown_drewN g2'.out _))⟩
          case measure => simp [intOf]; omega
      · obtain rfl : j = 400 := by omega
        have h64 := chk_len S.out.ck
        rw [List.length_map] at h64
        have CC := CK _ X wr S.out.bk.1 (by omega)
        rw [S.out.ck] at CC
        clear h64 CK LK PU RE
        go_wp2_with (go_at_call 12; (with_reducible refine CC.mono ?_); rintro e w3 ⟨rfl, g3⟩)
        go_ret
        exact ⟨rfl, grown_below (grown_tr S.out.g g3)⟩
    · have h64 := chk_len S.out.ck
      rw [List.length_map] at h64
      have CC := CK _ X wr S.out.bk.1 (by omega)
      rw [S.out.ck] at CC
      clear h64 CK LK PU RE
      go_wp2_with (go_at_call 12; (with_reducible refine CC.mono ?_); rintro e w3 ⟨rfl, g3⟩)
      go_ret
      exact ⟨rfl, grown_below (grown_tr S.out.g g3)⟩
end seatOnce
end Go.Proofs.Ytdekeibnehoeaaa
