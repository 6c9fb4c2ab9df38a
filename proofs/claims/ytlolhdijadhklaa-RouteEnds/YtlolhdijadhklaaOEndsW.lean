/- A right way stays right and ends behind as many replies as it may ask: the walk of the statement. -/
import Derived.Test.YtlolhdijadhklaaOEndsM
import Derived.Test.YtlolhdijadhklaaOArgs3
namespace Go.Proofs.Ytlolhdijadhklaa
open Go.RowKit Atl
set_option linter.unusedVariables false
set_option linter.unusedSimpArgs false
set_option maxRecDepth 10000

def pZ : Rp := ⟨0, 0, 0, 0, nil3, zA, nil3⟩
namespace routeEnds
set_option maxRecDepth 100000 in
set_option maxHeartbeats 64000000 in
theorem walk (w : World) (v0 : Value) (o0 : ∃ (y : Wy) (l : List Jb), v0 = rv y ∧ Rdw w y ∧ Rdj w y.j l) (v1 : Value) (o1 : ∃ (u : S3) (l : List (Rp × List Jb)), v1 = .slice u.a u.n u.c ∧ Rpl w u l) :
    Calls Try.prog 6 #[v0, v1] w fun e w' => e = .returned (.bool true) ∧ Below w.heap.size w w' := by
  obtain ⟨r, l0, rfl, hr, hj⟩ := o0
  obtain ⟨⟨ya, un, yc⟩, l, rfl, hl⟩ := o1
  simp only at hl ⊢
  have AW : Hid (∀ W, _) := fun W => oawake_any W
  have CK : Hid (∀ W, w.grownBy W none → _) := fun W g => ochk_any r W (hr.grown g)
  have RR : Hid (∀ W, w.grownBy W none → Rdw W r ∧ Rdj W r.j l0) := fun W g => ⟨hr.grown g, hj.grown g⟩
  have RL : Hid (Rpl w ⟨ya, un, yc⟩ l) := hl
  obtain ⟨W0, hW0⟩ : ∃ W0, W0 = w.alloc (.cells (ra r) 60) := ⟨_, rfl⟩
  have G0 : Hid (w.grownBy W0 none) := by rw [hW0]; exact World.grownBy_alloc _ _ none
  have SZ : Hid (W0.heap.size = w.heap.size + 1) := (by rw [hW0]; simp : _ = _)
  have CR : Hid (∀ W, W0.grownBy W none → Cs W w.heap.size (rc r)) := fun W g => by rw [hW0] at g; exact cs_new g
  have HW0 : Hid (W0 = _) := hW0
  clear hW0 hr hj hl
  cases hc : rchk r with
  | false =>
    have hw : way r = false := by unfold way; rw [hc]; rfl
    have hR : hrdW r pZ = r := by unfold hrdW; rw [hw, if_neg (by simp)]
    have HE : Hid (∀ W, w.grownBy W none → Calls Try.prog 33 #[rv r, .agg #[.int .i64 0, .int .i64 0, .int .i64 0, .int .i64 0, .slice none 0 0, .int .i64 0, .int .i64 0, .slice none 0 0, .int .i64 0, .int .i64 0, .int .i64 0, .int .i64 0, .int .i64 0, .int .i64 0, .int .i64 0, .string ⟨#[]⟩]] W fun e w' => ∃ u j : S3, e = .returned (rv (setUJ r u j)) ∧ W.grownBy w' none ∧ ∀ V, Chg (fun k => k < W.heap.size) w' V → Rat V r.m u ∧ Rdj V j l0) := fun W g => by
      have := heard_by (fun V j => Rdj V j l0) r pZ W (RR.out W g).1 (rat_nil W) szm_Z (fun V k => by rw [hR]; exact copj_any r.j l0 V (RR.out V (grown_tr g k)).2)
      rw [hR] at this
      exact this
    rw [hc] at CK
    clear hc hw hR
    go_enter Try.func6, Try.ntmps6
    go_upto_region 1 with fail
    rw [← HW0.out]
    go_upto_region 4 with (first
      | (go_at_call 30; (with_reducible refine (AW.out _).mono ?_); rintro e w1 ⟨rfl, g1⟩)
      | (refine load_r rfl rfl w.heap.size 0 r rfl (CR.out w1 g1).1 ?_)
      | (go_at_call 31; (with_reducible refine (CK.out _ (grown_tr G0.out g1)).mono ?_); rintro e w2 ⟨rfl, g2⟩))
    have G2 : Hid (W0.grownBy w2 none) := grown_tr g1 g2
    clear g1 g2 AW CK
    refine wp_region_held_drew (S := fun W => W0.grownBy W none) (by kernel_rfl) (grown_drew G2.out) (fun hHeld => ?_)
    refine wpAnyH_take (i := 0) (v := rv r) rfl (by kernel_rfl) (by kernel_rfl) (by kernel_rfl) (fun _ _ _ h => h) (yieldsIf_load_mid rfl 60 (.tmp 2) rfl w.heap.size 0 rfl (rc r) _ (fun W hS => (CR.out W hS).1) Try.underlying60 rfl (by kernel_rfl)) hHeld ?_
    simp only [Act.put, List.getElem_toArray, List.getElem_cons_succ, List.getElem_cons_zero, List.setIfInBounds_toArray, List.set_cons_zero, List.set_cons_succ]
    refine wpAnyH_take (i := 1) (v := qv pZ) rfl (by kernel_rfl) (by kernel_rfl) (by kernel_rfl) (fun _ _ _ h => h) (.inl ⟨rfl, fun W _ => by first | kernel_rfl | go_simp⟩) hHeld ?_
    simp only [Act.put, List.getElem_toArray, List.getElem_cons_succ, List.getElem_cons_zero, List.setIfInBounds_toArray, List.set_cons_zero, List.set_cons_succ]
    refine wpAnyH_take (i := 3) (v := rv r) rfl (by kernel_rfl) (by kernel_rfl) (by kernel_rfl) (fun _ _ _ h => h) (yieldsIf_load_mid rfl 60 (.tmp 2) rfl w.heap.size 0 rfl (rc r) _ (fun W hS => (CR.out W hS).1) Try.underlying60 rfl (by kernel_rfl)) hHeld ?_
    simp only [Act.put, List.getElem_toArray, List.getElem_cons_succ, List.getElem_cons_zero, List.setIfInBounds_toArray, List.set_cons_zero, List.set_cons_succ]
    refine wpAnyH_ready (rs := [2]) (by kernel_rfl) (by simp) ?_
    refine AllReadyH.cons (o := _) rfl (fun K hK => ?_) AllReadyH.nil
    go_simp
    refine (HE.out _ (grown_tr G0.out hHeld)).mono ?_
    rintro e w8 ⟨u', j', rfl, g8, h8⟩
    have G8 : Hid (W0.grownBy w8 none) := grown_tr hHeld g8
    obtain ⟨m8, jj8⟩ := h8 w8 (Chg.of (grown_refl _ none) (by simp))
    have SM : Hid (Calls Try.prog 32 #[rv (setUJ r u' j'), rv r] w8 _) := way_same r u' j' l0 w8 (RR.out w8 (grown_tr G0.out G8.out)).1.m m8 (RR.out w8 (grown_tr G0.out G8.out)).2 jj8
    clear g8 h8 m8 jj8
    refine hK.out _ _ G8.out (fun hHeld => ?_)
    clear hK K
    refine wpAnyH_ready (rs := [4]) (by kernel_rfl) (by simp) ?_
    refine AllReadyH.cons (o := _) rfl (fun K hK => ?_) AllReadyH.nil
    go_simp
    refine SM.out.mono ?_
    rintro e w9 ⟨rfl, g9⟩
    refine hK.out _ _ (grown_tr G8.out g9) (fun hHeld => ?_)
    clear hK K
    refine wpAnyH_take (i := 5) (v := .bool true) rfl (by kernel_rfl) (by kernel_rfl) (by kernel_rfl) (fun _ _ _ h => h) (.inl ⟨rfl, fun W _ => rfl⟩) hHeld ?_
    simp only [Act.put, List.getElem_toArray, List.getElem_cons_succ, List.getElem_cons_zero, List.setIfInBounds_toArray, List.set_cons_zero, List.set_cons_succ]
    refine wpAnyH_done (by kernel_rfl) ?_ _
    have GF : Hid (w.grownBy w9 none) := grown_tr G0.out hHeld
    clear hHeld
    go_wp2_with fail
    go_ret
    exact ⟨rfl, grown_below GF.out⟩
  | true =>
    rw [hc] at CK
    have LN : Hid (un = l.length ∧ l.length ≤ 140737488355328) := ⟨RL.out.1, RL.out.2.1⟩
    have unB : (un : Int) ≤ 140737488355328 := by have h1 := LN.out.1; have h2 := LN.out.2; omega
    have LF : Hid (r.lf ≤ 64 ∧ 0 ≤ r.lf) := by
      unfold rchk at hc
      simp only [Bool.and_eq_true] at hc
      have := rnum_is.1 hc.1.1
      exact ⟨this.2.2.2, this.2.2.1⟩
    have HC : Hid (rchk r = true) := hc
    clear hc
    go_enter Try.func6, Try.ntmps6
    go_upto_region 1 with fail
    rw [← HW0.out]
    go_upto_region 5 with (first
      | (go_at_call 30; (with_reducible refine (AW.out _).mono ?_); rintro e w1 ⟨rfl, g1⟩)
      | (refine load_r rfl rfl w.heap.size 0 r rfl (CR.out w1 g1).1 ?_)
      | (go_at_call 31; (with_reducible refine (CK.out _ (grown_tr G0.out g1)).mono ?_); rintro e w2 ⟨rfl, g2⟩))
    have G2 : Hid (W0.grownBy w2 none) := grown_tr g1 g2
    have c15 : w2.cell? ⟨w.heap.size, 15, none⟩ = some (.int .i64 r.lf) := (CR.out w2 G2.out).1 15 _ rfl
    clear g1 g2 AW CK
    have I0 : Hid (w.grownBy w2 none ∧ Cs w2 w.heap.size (rc r) ∧ w.heap.size < w2.heap.size ∧ Rdw w2 r ∧ (∃ l, Rdj w2 r.j l) ∧ rchk r = true ∧ (r.d = false → r.lf = r.lf - ((0 : Nat) : Int))) := ⟨grown_tr G0.out G2.out, CR.out w2 G2.out, by have h1 := G2.out.size; have h2 := SZ.out; omega, (RR.out _ (grown_tr G0.out G2.out)).1, ⟨l0, (RR.out _ (grown_tr G0.out G2.out)).2⟩, HC.out, fun _ => by omega⟩
    obtain ⟨left, hleft⟩ : ∃ left, left = r.lf := ⟨_, rfl⟩
    have HL : Hid (left = r.lf) := hleft
    have LF' : Hid (left ≤ 64) := by have := LF.out.1; have := HL.out; show _ ≤ _; omega
    go_upto_region 6 with fail
    rw [← hleft]
    clear hleft c15 RR CR HC G2
    have I1 : Hid (w.grownBy w2 none ∧ Cs w2 w.heap.size (rc r) ∧ w.heap.size < w2.heap.size ∧ Rdw w2 r ∧ (∃ l, Rdj w2 r.j l) ∧ rchk r = true ∧ (r.d = false → r.lf = left - ((0 : Nat) : Int))) := by rw [HL.out]; exact I0
    clear I0 HL
    go_upto_region 7 with fail
    go_loopw [6, 7, 8, 9, 10, 11, 12, 13] (fun i _ _ _ _ _ _ _ wr => ∃ (j : Nat) (r : Wy), i = .int .i64 (j : Int) ∧ j ≤ un ∧ j ≤ 64 ∧ Hid (w.grownBy wr none ∧ Cs wr w.heap.size (rc r) ∧ w.heap.size < wr.heap.size ∧ Rdw wr r ∧ (∃ l, Rdj wr r.j l) ∧ rchk r = true ∧ (r.d = false → r.lf = left - (j : Int)))) (fun i _ _ _ _ _ _ _ _ => 64 - (intOf i).toNat)
    case atStart => exact ⟨0, r, rfl, by omega, by omega, I1⟩
    case round =>
      clear I1
      rename Wy => r9
      obtain ⟨j, r, rfl, hj, hj64, I⟩ := hrel
      by_cases hex : j < un ∧ j < 64
      case neg =>
        cases hd : r.d with
        | true =>
          have c16 : wr.cell? ⟨w.heap.size, 16, none⟩ = some (.bool true) := by have := I.out.2.1.1 16 _ rfl; rw [hd] at this; exact this
          have HD : Hid (r.d = true) := hd
          clear hd
          by_cases h1 : j < un
          · have h2 : ¬ (j : Int) < 64 := by omega
            have h1' : (j : Int) < (un : Int) := by omega
            clear hj hj64 hex h1
            go_wp2_with fail
            go_ret
            exact ⟨rfl, grown_below I.out.1⟩
          · have h1' : ¬ (j : Int) < (un : Int) := by omega
            clear hj hj64 hex h1
            go_wp2_with fail
            go_ret
            exact ⟨rfl, grown_below I.out.1⟩
        | false =>
          have c16 : wr.cell? ⟨w.heap.size, 16, none⟩ = some (.bool false) := by have := I.out.2.1.1 16 _ rfl; rw [hd] at this; exact this
          have hw : way r = true := by unfold way; rw [I.out.2.2.2.2.2.1, hd]; rfl
          obtain ⟨p1, p2, p3, p4, p5, p6, -, -, -⟩ := way_parts hw
          have e1 := I.out.2.2.2.2.2.2 hd
          have b1 := LF'.out
          have HD : Hid (r.d = false) := hd
          clear hd hw
          have hju : ¬ (j : Int) < (un : Int) := by omega
          have hlt : (un : Int) < left := by omega
          clear hj hj64 hex p1 p2 p3 p4 p5 p6 e1 b1
          go_wp2_with fail
          go_ret
          exact ⟨rfl, grown_below I.out.1⟩
      case pos =>
        obtain ⟨⟨p, lp⟩, hk⟩ : ∃ k, l[j]? = some k := ⟨_, List.getElem?_eq_getElem (by have := LN.out.1; omega)⟩
        obtain ⟨⟨g, o, e, ck⟩, pm, pz, pj⟩ := RL.out.2.2 j _ hk
        simp only at e pm pz pj ck
        subst e
        have CP : Hid (∀ W, w.grownBy W none → W.rangeAt g (o + j * 16) (qc p)) := fun W gg i v hi => (Chg.of (F := fun _ => False) gg (by simp)).cell (ck i v hi) id
        have RP : Hid (∀ W, w.grownBy W none → Rat W p.m p.u ∧ Rdj W p.j lp) := fun W gg => ⟨pm.grown gg, pj.grown gg⟩
        have ZP : Hid (Szm p.m) := pz
        have hjn : ((j : Int)).toNat = j := by omega
        have hj0 : 0 ≤ (j : Int) := by omega
        have hlt' : (j : Int) < (un : Int) := by omega
        have h64' : (j : Int) < 64 := by omega
        have JJ : Hid (j < un ∧ j < 64) := hex
        clear hk ck pm pz pj hj hj64 hex
        obtain ⟨lr, hlr⟩ := I.out.2.2.2.2.1
        have JR : Hid (∀ W, wr.grownBy W none → Rdj W r.j lr) := fun W gg => hlr.grown gg
        have WHX := where_any r wr I.out.2.2.2.1
        have KK : Hid (∀ W, wr.grownBy W none → W.rangeAt w.heap.size 0 (rc r)) := fun W gg => (I.out.2.1.grown gg I.out.2.2.1).1
        clear hlr
        cases hd : r.d with
        | true =>
          have hw : way r = false := by unfold way; rw [hd]; simp
          have hR : hrdW r p = r := by unfold hrdW; rw [hw, if_neg (by simp)]
          have HE : Hid (∀ W, wr.grownBy W none → Calls Try.prog 33 #[rv r, qv p] W fun e w' => ∃ u j : S3, e = .returned (rv (setUJ r u j)) ∧ W.grownBy w' none ∧ ∀ V, Chg (fun k => k < W.heap.size) w' V → Rat V r.m u ∧ Rdj V j lr) := fun W gg => by
            have := heard_by (fun V j => Rdj V j lr) r p W (I.out.2.2.2.1.grown gg) (RP.out W (grown_tr I.out.1 gg)).1 ZP.out (fun V k => by rw [hR]; exact copj_any r.j lr V (JR.out V (grown_tr gg k)))
            rwa [hR] at this
          rw [whr_done hd] at WHX
          have WK : Hid (Calls Try.prog 34 #[rv r] wr fun e w' => e = .returned (.tuple #[.int .i64 0, .int .i64 0, .int .i64 0, .int .i64 0]) ∧ wr.grownBy w' none) := WHX
          have C16 : Hid (∀ W, wr.grownBy W none → W.cell? ⟨w.heap.size, 16, none⟩ = some (.bool true)) := fun W gg => by have := KK.out W gg 16 _ rfl; rw [hd] at this; exact this
          clear hd hw hR WHX
          go_upto_region 11 with (first
            | (refine load_r rfl rfl w.heap.size 0 r rfl (KK.out wr (grown_refl _ _)) ?_)
            | (go_at_call 34; (with_reducible refine WK.out.mono ?_); rintro e w1 ⟨rfl, g1⟩; have c16 := C16.out w1 g1; have G1 : Hid (wr.grownBy w1 none) := g1; clear g1))
          clear c16 WK C16
          refine wp_region_held_drew (S := fun W => wr.grownBy W none) (by kernel_rfl) (grown_drew G1.out) (fun hHeld => ?_)
          refine wpAnyH_take (i := 0) (v := .int .i64 0) rfl (by kernel_rfl) (by kernel_rfl) (by kernel_rfl) (fun _ _ _ h => h) (.inl ⟨by kernel_rfl, fun W _ => by kernel_rfl⟩) hHeld ?_
          simp only [Act.put, List.getElem_toArray, List.getElem_cons_succ, List.getElem_cons_zero, List.setIfInBounds_toArray, List.set_cons_zero, List.set_cons_succ]
          refine wpAnyH_take (i := 1) (v := .bool true) rfl (by kernel_rfl) (by kernel_rfl) (by kernel_rfl) (fun _ _ _ h => h) (.inl ⟨by kernel_rfl, fun W _ => by kernel_rfl⟩) hHeld ?_
          simp only [Act.put, List.getElem_toArray, List.getElem_cons_succ, List.getElem_cons_zero, List.setIfInBounds_toArray, List.set_cons_zero, List.set_cons_succ]
          refine wpAnyH_take (i := 2) (v := .bool true) rfl (by kernel_rfl) (by kernel_rfl) (by kernel_rfl) (fun _ _ _ h => h) (.inl ⟨by kernel_rfl, fun W _ => by kernel_rfl⟩) hHeld ?_
          simp only [Act.put, List.getElem_toArray, List.getElem_cons_succ, List.getElem_cons_zero, List.setIfInBounds_toArray, List.set_cons_zero, List.set_cons_succ]
          refine wpAnyH_take (i := 3) (v := .int .i64 0) rfl (by kernel_rfl) (by kernel_rfl) (by kernel_rfl) (fun _ _ _ h => h) (.inl ⟨by kernel_rfl, fun W _ => by kernel_rfl⟩) hHeld ?_
          simp only [Act.put, List.getElem_toArray, List.getElem_cons_succ, List.getElem_cons_zero, List.setIfInBounds_toArray, List.set_cons_zero, List.set_cons_succ]
          refine wpAnyH_take (i := 4) (v := .bool true) rfl (by kernel_rfl) (by kernel_rfl) (by kernel_rfl) (fun _ _ _ h => h) (.inl ⟨by kernel_rfl, fun W _ => by kernel_rfl⟩) hHeld ?_
          simp only [Act.put, List.getElem_toArray, List.getElem_cons_succ, List.getElem_cons_zero, List.setIfInBounds_toArray, List.set_cons_zero, List.set_cons_succ]
          refine wpAnyH_take (i := 5) (v := .bool true) rfl (by kernel_rfl) (by kernel_rfl) (by kernel_rfl) (fun _ _ _ h => h) (.inl ⟨by kernel_rfl, fun W _ => by kernel_rfl⟩) hHeld ?_
          simp only [Act.put, List.getElem_toArray, List.getElem_cons_succ, List.getElem_cons_zero, List.setIfInBounds_toArray, List.set_cons_zero, List.set_cons_succ]
          refine wpAnyH_take (i := 6) (v := .bool true) rfl (by kernel_rfl) (by kernel_rfl) (by kernel_rfl) (fun _ _ _ h => h) (.inl ⟨by kernel_rfl, fun W _ => by kernel_rfl⟩) hHeld ?_
          simp only [Act.put, List.getElem_toArray, List.getElem_cons_succ, List.getElem_cons_zero, List.setIfInBounds_toArray, List.set_cons_zero, List.set_cons_succ]
          refine wpAnyH_take (i := 7) (v := rv r) rfl (by kernel_rfl) (by kernel_rfl) (by kernel_rfl) (fun _ _ _ h => h) (yieldsIf_load_mid (by kernel_rfl) 60 (.tmp 2) rfl w.heap.size 0 rfl (rc r) _ (fun W hS => KK.out W hS) Try.underlying60 rfl (by kernel_rfl)) hHeld ?_
          simp only [Act.put, List.getElem_toArray, List.getElem_cons_succ, List.getElem_cons_zero, List.setIfInBounds_toArray, List.set_cons_zero, List.set_cons_succ]
          refine wpAnyH_take (i := 8) (v := .slice (some ⟨g, o, none⟩) un yc) rfl (by kernel_rfl) (by kernel_rfl) (by kernel_rfl) (fun _ _ _ h => h) (.inl ⟨by kernel_rfl, fun W _ => by kernel_rfl⟩) hHeld ?_
          simp only [Act.put, List.getElem_toArray, List.getElem_cons_succ, List.getElem_cons_zero, List.setIfInBounds_toArray, List.set_cons_zero, List.set_cons_succ]
          refine wpAnyH_take (i := 9) (v := .int .i64 (j : Int)) rfl (by kernel_rfl) (by kernel_rfl) (by kernel_rfl) (fun _ _ _ h => h) (.inl ⟨by kernel_rfl, fun W _ => by kernel_rfl⟩) hHeld ?_
          simp only [Act.put, List.getElem_toArray, List.getElem_cons_succ, List.getElem_cons_zero, List.setIfInBounds_toArray, List.set_cons_zero, List.set_cons_succ]
          refine wpAnyH_take (i := 10) (v := .pointer (some ⟨g, o + j * 16, none⟩)) rfl (by kernel_rfl) (by kernel_rfl) (by kernel_rfl) (fun _ _ _ h => h) (.inl ⟨by kernel_rfl, fun W _ => by go_simp⟩) hHeld ?_
          simp only [Act.put, List.getElem_toArray, List.getElem_cons_succ, List.getElem_cons_zero, List.setIfInBounds_toArray, List.set_cons_zero, List.set_cons_succ]
          refine wpAnyH_take (i := 11) (v := qv p) rfl (by kernel_rfl) (by kernel_rfl) (by kernel_rfl) (fun _ _ _ h => h) (yieldsIf_load_mid (by kernel_rfl) 66 (.tmp 55) rfl g (o + j * 16) rfl (qc p) _ (fun W hS => CP.out W (grown_tr I.out.1 hS)) Try.underlying66 rfl (by kernel_rfl)) hHeld ?_
          simp only [Act.put, List.getElem_toArray, List.getElem_cons_succ, List.getElem_cons_zero, List.setIfInBounds_toArray, List.set_cons_zero, List.set_cons_succ]
          refine wpAnyH_take (i := 13) (v := rv r) rfl (by kernel_rfl) (by kernel_rfl) (by kernel_rfl) (fun _ _ _ h => h) (yieldsIf_load_mid (by kernel_rfl) 60 (.tmp 2) rfl w.heap.size 0 rfl (rc r) _ (fun W hS => KK.out W hS) Try.underlying60 rfl (by kernel_rfl)) hHeld ?_
          simp only [Act.put, List.getElem_toArray, List.getElem_cons_succ, List.getElem_cons_zero, List.setIfInBounds_toArray, List.set_cons_zero, List.set_cons_succ]
          refine wpAnyH_ready (rs := [12]) (by kernel_rfl) (by simp) ?_
          refine AllReadyH.cons (o := _) rfl (fun K hK => ?_) AllReadyH.nil
          go_simp
          refine (HE.out _ hHeld).mono ?_
          rintro e w8 ⟨u', j', rfl, g8, h8⟩
          have G8 : Hid (wr.grownBy w8 none) := grown_tr hHeld g8
          obtain ⟨m8, jj8⟩ := h8 w8 (Chg.of (grown_refl _ none) (by simp))
          have SM : Hid (Calls Try.prog 32 #[rv (setUJ r u' j'), rv r] w8 _) := way_same r u' j' lr w8 (I.out.2.2.2.1.grown G8.out).m m8 (JR.out w8 G8.out) jj8
          clear g8 h8 m8 jj8
          refine hK.out _ _ G8.out (fun hHeld => ?_)
          clear hK K
          refine wpAnyH_ready (rs := [14]) (by kernel_rfl) (by simp) ?_
          refine AllReadyH.cons (o := _) rfl (fun K hK => ?_) AllReadyH.nil
          go_simp
          refine SM.out.mono ?_
          rintro e w9 ⟨rfl, g9⟩
          refine hK.out _ _ (grown_tr G8.out g9) (fun hHeld => ?_)
          clear hK K
          refine wpAnyH_take (i := 15) (v := .bool true) rfl (by kernel_rfl) (by kernel_rfl) (by kernel_rfl) (fun _ _ _ h => h) (.inl ⟨by kernel_rfl, fun W _ => by kernel_rfl⟩) hHeld ?_
          simp only [Act.put, List.getElem_toArray, List.getElem_cons_succ, List.getElem_cons_zero, List.setIfInBounds_toArray, List.set_cons_zero, List.set_cons_succ]
          refine wpAnyH_take (i := 16) (v := .bool true) rfl (by kernel_rfl) (by kernel_rfl) (by kernel_rfl) (fun _ _ _ h => h) (.inl ⟨by kernel_rfl, fun W _ => by kernel_rfl⟩) hHeld ?_
          simp only [Act.put, List.getElem_toArray, List.getElem_cons_succ, List.getElem_cons_zero, List.setIfInBounds_toArray, List.set_cons_zero, List.set_cons_succ]
          refine wpAnyH_done (by kernel_rfl) ?_ _
          have GF : Hid (w.grownBy w9 none) := grown_tr I.out.1 hHeld
          clear hHeld
          go_wp2_with fail
          go_ret
          exact ⟨rfl, grown_below GF.out⟩
        | false =>
          have hw : way r = true := by unfold way; rw [I.out.2.2.2.2.2.1, hd]; rfl
          have C16 : Hid (∀ W, wr.grownBy W none → W.cell? ⟨w.heap.size, 16, none⟩ = some (.bool false)) := fun W gg => by have := KK.out W gg 16 _ rfl; rw [hd] at this; exact this
          have FI : Hid (∀ W, wr.grownBy W none → Calls Try.prog 10 #[av r.m r.u, .string r.nm] W fun e w' => e = .returned (.tuple #[sv (findS r.m r.nm), .bool (findB r.m r.nm)]) ∧ W.grownBy w' none) := fun W gg => find_any r.m r.u r.nm W (I.out.2.2.2.1.grown gg).m (I.out.2.2.2.1).z (I.out.2.2.2.1).k
          obtain ⟨hc1, hc2, hc3, hc4, hc5⟩ := hrd_ok p hw
          obtain ⟨lR, hR1, hR2⟩ : ∃ lR, (∀ W, wr.grownBy W none → Rdj W (hrdW r p).j lR) ∧ ((hrdW r p).d = true → (hrdW r p).er ≠ 181 → lR = lp) := by
            by_cases hx : (hrdW r p).j = p.j
            · exact ⟨lp, fun W gg => by rw [hx]; exact (RP.out W (grown_tr I.out.1 gg)).2, fun _ _ => rfl⟩
            · have ne : (hrdW r p).d = true → (hrdW r p).er ≠ 181 → False := fun h1 h2 => by
                rcases hc4 h1 with h | h
                · exact h2 h
                · exact hx h.2.2.2
              rcases hc5 with h | h | h
              · exact ⟨lr, fun W gg => by rw [h]; exact JR.out W gg, fun h1 h2 => (ne h1 h2).elim⟩
              · exact absurd h hx
              · exact ⟨[], fun W gg => by rw [h]; exact rdj_nil W, fun h1 h2 => (ne h1 h2).elim⟩
          have HE : Hid (∀ W, wr.grownBy W none → Calls Try.prog 33 #[rv r, qv p] W fun e w' => ∃ u j : S3, e = .returned (rv (setUJ (hrdW r p) u j)) ∧ W.grownBy w' none ∧ ∀ V, Chg (fun k => k < W.heap.size) w' V → Rat V (hrdW r p).m u ∧ Rdj V j lR) := fun W gg =>
            heard_by (fun V j => Rdj V j lR) r p W (I.out.2.2.2.1.grown gg) (RP.out W (grown_tr I.out.1 gg)).1 ZP.out (fun V k => copj_any (hrdW r p).j lR V (hR1 V (grown_tr gg k)))
          have RD : Hid (∀ W, wr.grownBy W none → Rdw W (hrdW r p)) := fun W gg => by
            unfold hrdW
            show Rdw _ _
            rw [if_pos hw]
            exact beh_rd (I.out.2.2.2.1.grown gg) (RP.out W (grown_tr I.out.1 gg)).1 ZP.out
          have HX : Hid (rchk (hrdW r p) = true ∧ (hrdW r p).lf ≤ r.lf ∧ ((hrdW r p).d = false → (hrdW r p).lf = r.lf - 1) ∧ ((hrdW r p).d = true → (hrdW r p).er = 181 ∨ p.k = 2 ∧ (hrdW r p).er = p.er ∧ (hrdW r p).tm = p.tm) ∧ ((hrdW r p).d = true → (hrdW r p).er ≠ 181 → lR = lp)) := ⟨hc1, hc2, hc3, fun h => (hc4 h).imp id (fun k => ⟨k.1, k.2.1, k.2.2.1⟩), hR2⟩
          have LFJ : Hid (r.lf = left - (j : Int)) := I.out.2.2.2.2.2.2 hd
          obtain ⟨p1, p2, p3, p4, p5, p6, -, -, -⟩ := way_parts hw
          obtain ⟨wt, wf⟩ := whr_way hw
          have HD : Hid (r.d = false) := hd
          clear hc1 hc2 hc3 hc4 hc5 hR1 hR2 hd hw
          generalize hrdW r p = R at *
          have nd1 : ¬ (r.nd < 1) := by omega
          have nd2 : ¬ (r.n < r.nd) := by omega
          cases hf : r.f with
          | true =>
            rw [wt hf] at WHX
            have WK : Hid (Calls Try.prog 34 #[rv r] wr fun e w' => e = .returned (.tuple #[.int .i64 0, .int .i64 r.nd, .int .i64 0, .int .i64 0]) ∧ wr.grownBy w' none) := WHX
            have HF : Hid (r.f = true) := hf
            clear hf wt wf WHX p1 p2 p3 p4
            generalize findS r.m r.nm = S at *
            generalize findB r.m r.nm = fb at *
            go_upto_region 13 with (first
              | (refine load_r rfl rfl w.heap.size 0 r rfl (KK.out wr (grown_refl _ _)) ?_)
              | (go_at_call 34; (with_reducible refine WK.out.mono ?_); rintro e w1 ⟨rfl, g1⟩; have c16 := C16.out w1 g1; have c1 : w1.cell? ⟨w.heap.size, 1, none⟩ = some (.string r.nm) := KK.out w1 g1 1 _ rfl; have G1 : Hid (wr.grownBy w1 none) := g1; clear g1)
              | (refine ld_a rfl rfl w.heap.size 2 r.m r.u rfl (map_in (KK.out w1 G1.out)) ?_)
              | (go_at_call 10; (with_reducible refine (FI.out _ G1.out).mono ?_); rintro e w2 ⟨rfl, g2⟩))
            have G3 : Hid (wr.grownBy (w2.alloc (.cells (sa S) 29)) none) := grown_alloc (grown_tr G1.out g2) _
            have X3 : Hid ((w2.alloc (.cells (sa S) 29)).rangeAt w2.heap.size 0 (sc S)) := (box_s (grown_refl _ _)).1
            clear g2 c16 c1 WK C16 FI G1
            generalize w2.alloc (.cells (sa S) 29) = v3 at *
            generalize w2.heap.size = q11 at *
            obtain ⟨z0, z1, z2, z3, z4⟩ := cells_s X3.out
            have k0 : v3.cell? ⟨w.heap.size, 0, none⟩ = some (.int .i64 r.n) := KK.out v3 G3.out 0 _ rfl
            have k13 : v3.cell? ⟨w.heap.size, 13, none⟩ = some (.bool true) := by have := KK.out v3 G3.out 13 _ rfl; rw [HF.out] at this; exact this
            clear z0 z1 X3
            go_upto_region 15 with fail
            clear z2 z3 z4 k0 k13 nd1 nd2
            go_upto_region 16 with (first
              | (refine load_r rfl rfl w.heap.size 0 r rfl (KK.out v3 G3.out) ?_)
              | (refine store_row (ty := 60) v3.heap.size 0 (ra r) rfl rfl (there_new (z := zra) (t := 60) rfl) (by kernel_rfl) (by simp [Value.oneCell']) ?_; intro w5 h5; have H5 : Hid (w5 = (v3.alloc (.cells zra 60)).setCells v3.heap.size 0 (rc r)) := h5; clear h5))
            obtain ⟨g5, s5, c5⟩ := new_row (w := v3) (z := zra) (cs := rc r) (t := 60) rfl H5.out
            have G5 : Hid (wr.grownBy w5.drew none) := grown_drew (grown_tr G3.out g5)
            have D5 : Hid (Cs w5.drew v3.heap.size (rc r) ∧ v3.heap.size < w5.drew.heap.size ∧ w.heap.size < v3.heap.size) := ⟨c5 _ (grown_drew (grown_refl _ _)), by show v3.heap.size < w5.heap.size; omega, by have h1 := G3.out.size; have h2 := I.out.2.2.1; omega⟩
            clear g5 s5 c5 H5 G3
            generalize v3.heap.size = q13 at *
            have hr5 : w5.drew.rangeAt w.heap.size 0 (rc r) := KK.out _ G5.out
            refine wp_region_held_drew (S := fun W => w.grownBy W none) (by kernel_rfl) (grown_tr I.out.1 G5.out) (fun hHeld => ?_)
            refine wpAnyH_take (i := 1) (v := .slice (some ⟨g, o, none⟩) un yc) rfl (by kernel_rfl) (by kernel_rfl) (by kernel_rfl) (fun _ _ _ h => h) (.inl ⟨by kernel_rfl, fun W _ => by kernel_rfl⟩) hHeld ?_
            simp only [Act.put, List.getElem_toArray, List.getElem_cons_succ, List.getElem_cons_zero, List.setIfInBounds_toArray, List.set_cons_zero, List.set_cons_succ]
            refine wpAnyH_take (i := 2) (v := .int .i64 (j : Int)) rfl (by kernel_rfl) (by kernel_rfl) (by kernel_rfl) (fun _ _ _ h => h) (.inl ⟨by kernel_rfl, fun W _ => by kernel_rfl⟩) hHeld ?_
            simp only [Act.put, List.getElem_toArray, List.getElem_cons_succ, List.getElem_cons_zero, List.setIfInBounds_toArray, List.set_cons_zero, List.set_cons_succ]
            refine wpAnyH_take (i := 3) (v := .pointer (some ⟨g, o + j * 16, none⟩)) rfl (by kernel_rfl) (by kernel_rfl) (by kernel_rfl) (fun _ _ _ h => h) (.inl ⟨by kernel_rfl, fun W _ => by go_simp⟩) hHeld ?_
            simp only [Act.put, List.getElem_toArray, List.getElem_cons_succ, List.getElem_cons_zero, List.setIfInBounds_toArray, List.set_cons_zero, List.set_cons_succ]
            refine wpAnyH_take (i := 4) (v := qv p) rfl (by kernel_rfl) (by kernel_rfl) (by kernel_rfl) (fun _ _ _ h => h) (yieldsIf_load_mid (by kernel_rfl) 66 (.tmp 116) rfl g (o + j * 16) rfl (qc p) _ (fun W hS => CP.out W hS) Try.underlying66 rfl (by kernel_rfl)) hHeld ?_
            simp only [Act.put, List.getElem_toArray, List.getElem_cons_succ, List.getElem_cons_zero, List.setIfInBounds_toArray, List.set_cons_zero, List.set_cons_succ]
            refine wpAnyH_ready (rs := [0]) (by kernel_rfl) (by simp) ?_
            refine AllReadyH.cons (o := _) rfl (fun K hK => ?_) AllReadyH.nil
            rw [if_pos (by rfl)]
            refine wp_load_mid 60 _ rfl w.heap.size 0 rfl (rc r) _ hr5 Try.underlying60 rfl (by kernel_rfl) ?_
            refine hK.out _ _ hHeld (fun hHeld => ?_)
            clear hK K
            simp only [Act.put, List.getElem_toArray, List.getElem_cons_succ, List.getElem_cons_zero, List.setIfInBounds_toArray, List.set_cons_zero, List.set_cons_succ]
            refine wpAnyH_ready (rs := [5]) (by kernel_rfl) (by simp) ?_
            refine AllReadyH.cons (o := _) rfl (fun K hK => ?_) AllReadyH.nil
            go_simp
            refine (HE.out _ G5.out).mono ?_
            rintro e w8 ⟨u', j', rfl, g8, h8⟩
            have G8 : Hid (w5.drew.grownBy w8 none) := g8
            refine hK.out _ _ (grown_tr hHeld g8) (fun hHeld => ?_)
            clear hK K
            refine wpAnyH_ready (rs := [6]) (by kernel_rfl) (by simp) ?_
            refine AllReadyH.cons (o := _) rfl (fun K hK => ?_) AllReadyH.nil
            rw [if_pos (by rfl)]
            have C8 : Cs w8 w.heap.size (rc r) := I.out.2.1.grown (grown_tr G5.out G8.out) I.out.2.2.1
            refine wp_store_mid 60 _ _ rfl w.heap.size 0 (ra (setUJ R u' j')) rfl rfl (C8.there (n := 20) (by simp)) (by kernel_rfl) (by simp [Value.oneCell']) ?_
            obtain ⟨w9, hw9⟩ : ∃ w9, w9 = w8.setCells w.heap.size 0 (ra (setUJ R u' j')).toList := ⟨_, rfl⟩
            rw [← hw9]
            have g89 : w8.grownBy w9 (some w.heap.size) := by rw [hw9]; exact grown_setCells _ _ _ _
            have GW : w.grownBy w9 none := grown_more hHeld g89 (fun k e => .inr (by injection e with e; omega))
            have hh := h8 w9 (Chg.of g89 (fun k e => by injection e with e; have h1 := G5.out.size; have h2 := I.out.2.2.1; omega))
            have C9 : Hid (Cs w9 w.heap.size (rc (setUJ R u' j')) ∧ w.heap.size < w9.heap.size) := ⟨by rw [hw9]; exact C8.sets (rc (setUJ R u' j')) rfl, by have h1 := g89.size; have h2 := G8.out.size; have h3 := G5.out.size; have h4 := I.out.2.2.1; omega⟩
            have D9 : Hid (Cs w9 q13 (rc r) ∧ q13 < w9.heap.size) := ⟨(D5.out.1.grown G8.out D5.out.2.1).but g89 (by have := D5.out.2.2; omega) (by have h1 := G8.out.size; have := D5.out.2.1; omega), by have h1 := g89.size; have h2 := G8.out.size; have := D5.out.2.1; omega⟩
            have RD9 : Hid (Rdw w9 (setUJ R u' j') ∧ Rdj w9 j' lR) := ⟨⟨hh.1, (RD.out _ (grown_tr G5.out G8.out)).z, (RD.out _ (grown_tr G5.out G8.out)).k⟩, hh.2⟩
            clear hHeld g89 hh C8 hw9 h8 g8
            refine hK.out _ _ GW (fun hHeld => ?_)
            clear hK K GW
            refine wpAnyH_done (by kernel_rfl) ?_ _
            have G9 : Hid (w.grownBy w9 none) := hHeld
            clear hHeld hr5 D5 G5 G8 HE KK RD
            have CK9 : Hid (Calls Try.prog 31 #[rv (setUJ R u' j')] w9 fun e w' => e = .returned (.bool true) ∧ w9.grownBy w' none) := by
              have := ochk_any (setUJ R u' j') w9 RD9.out.1
              rwa [show rchk (setUJ R u' j') = true from HX.out.1] at this
            have K9 : Hid (∀ W, w9.grownBy W none → W.rangeAt w.heap.size 0 (rc (setUJ R u' j')) ∧ W.rangeAt q13 0 (rc r)) := fun W gg => ⟨(C9.out.1.grown gg C9.out.2).1, (D9.out.1.grown gg D9.out.2).1⟩
            have hle : ¬ (r.lf < R.lf) := by have := HX.out.2.1; omega
            cases hRd : R.d with
            | false =>
              have hlq : (R.lf != r.lf - 1) = false := by have := HX.out.2.2.1 hRd; simp; omega
              have HRD : Hid (R.d = false) := hRd
              clear hRd
              go_upto_region 19 with (first
                | (refine load_r rfl rfl w.heap.size 0 (setUJ R u' j') rfl (K9.out w9 (grown_refl _ _)).1 ?_)
                | (go_at_call 31; (with_reducible refine CK9.out.mono ?_); rintro e w10 ⟨rfl, g10⟩; have x15 : w10.cell? ⟨w.heap.size, 15, none⟩ = some (.int .i64 R.lf) := (K9.out w10 g10).1 15 _ rfl; have y15 : w10.cell? ⟨q13, 15, none⟩ = some (.int .i64 r.lf) := (K9.out w10 g10).2 15 _ rfl; have x16 : w10.cell? ⟨w.heap.size, 16, none⟩ = some (.bool false) := (by have := (K9.out w10 g10).1 16 _ rfl; rw [show (setUJ R u' j').d = false from HRD.out] at this; exact this); have G10 : Hid (w9.grownBy w10 none) := g10; clear g10))
              clear hle hlq x15 y15 x16 CK9
              have x16 : ∀ y : Gr w10, y.now.cell? ⟨w.heap.size, 16, none⟩ = some (.bool false) := fun y => by have := (K9.out y.now (grown_tr G10.out y.grown)).1 16 _ rfl; rw [show (setUJ R u' j').d = false from HRD.out] at this; exact this
              have hne10 : Nonempty (Gr w10) := ⟨w10, grown_refl _ _⟩
              have FIN : Hid (∀ y : Gr w10, w.grownBy y.now none ∧ Cs y.now w.heap.size (rc (setUJ R u' j')) ∧ w.heap.size < y.now.heap.size ∧ Rdw y.now (setUJ R u' j') ∧ (∃ l, Rdj y.now (setUJ R u' j').j l) ∧ rchk (setUJ R u' j') = true ∧ ((setUJ R u' j').d = false → (setUJ R u' j').lf = left - ((j + 1 : Nat) : Int))) := fun y => by
                have gg := grown_tr G10.out y.grown
                refine ⟨grown_tr G9.out gg, C9.out.1.grown gg C9.out.2, by have := gg.size; have := C9.out.2; omega, RD9.out.1.grown gg, ⟨lR, RD9.out.2.grown gg⟩, HX.out.1, fun hd => ?_⟩
                have h1 := HX.out.2.2.1 hd
                have h2 := LFJ.out
                show R.lf = _
                omega
              clear K9 C9 D9 RD9
              refine wp_region_quiet_at (C := fun w' => ∃ y : Gr w10, w' = y.now) (by kernel_rfl) (by kernel_rfl) ⟨⟨_, grown_drewN (grown_refl _ _) 1⟩, rfl⟩ ?_
              repeat (go_big_quiet_step (fail))
              refine wpQuiet_nil ?_
              rintro _ ⟨y, rfl⟩
              go_wp2_with fail
              go_roundw
              case rel => exact ⟨j + 1, setUJ R u' j', by go_num, by have := JJ.out.1; omega, by have := JJ.out.2; omega, FIN.out y⟩
              case measure => have := JJ.out.2; simp [intOf]; omega
            | true =>
              have HRD : Hid (R.d = true) := hRd
              have hcs := HX.out.2.2.2.1 hRd
              by_cases he : R.er = 181
              · have HE9 : Hid (R.er = 181) := he
                clear hRd hcs he
                go_upto_region 19 with (first
                  | (refine load_r rfl rfl w.heap.size 0 (setUJ R u' j') rfl (K9.out w9 (grown_refl _ _)).1 ?_)
                  | (go_at_call 31; (with_reducible refine CK9.out.mono ?_); rintro e w10 ⟨rfl, g10⟩; have x15 : w10.cell? ⟨w.heap.size, 15, none⟩ = some (.int .i64 R.lf) := (K9.out w10 g10).1 15 _ rfl; have y15 : w10.cell? ⟨q13, 15, none⟩ = some (.int .i64 r.lf) := (K9.out w10 g10).2 15 _ rfl; have x16 : w10.cell? ⟨w.heap.size, 16, none⟩ = some (.bool true) := (by have := (K9.out w10 g10).1 16 _ rfl; rw [show (setUJ R u' j').d = true from HRD.out] at this; exact this); have G10 : Hid (w9.grownBy w10 none) := g10; clear g10))
                clear hle x15 y15 x16 CK9
                have x16 : ∀ y : Gr w10, y.now.cell? ⟨w.heap.size, 16, none⟩ = some (.bool true) := fun y => by have := (K9.out y.now (grown_tr G10.out y.grown)).1 16 _ rfl; rw [show (setUJ R u' j').d = true from HRD.out] at this; exact this
                have x17 : ∀ y : Gr w10, y.now.cell? ⟨w.heap.size, 17, none⟩ = some (.int .i64 181) := fun y => by have := (K9.out y.now (grown_tr G10.out y.grown)).1 17 _ rfl; rw [show (setUJ R u' j').er = 181 from HE9.out] at this; exact this
                have hne10 : Nonempty (Gr w10) := ⟨w10, grown_refl _ _⟩
                have FIN : Hid (∀ y : Gr w10, w.grownBy y.now none ∧ Cs y.now w.heap.size (rc (setUJ R u' j')) ∧ w.heap.size < y.now.heap.size ∧ Rdw y.now (setUJ R u' j') ∧ (∃ l, Rdj y.now (setUJ R u' j').j l) ∧ rchk (setUJ R u' j') = true ∧ ((setUJ R u' j').d = false → (setUJ R u' j').lf = left - ((j + 1 : Nat) : Int))) := fun y => by
                  have gg := grown_tr G10.out y.grown
                  refine ⟨grown_tr G9.out gg, C9.out.1.grown gg C9.out.2, by have := gg.size; have := C9.out.2; omega, RD9.out.1.grown gg, ⟨lR, RD9.out.2.grown gg⟩, HX.out.1, fun hd => ?_⟩
                  have h1 := HX.out.2.2.1 hd
                  have h2 := LFJ.out
                  show R.lf = _
                  omega
                clear K9 C9 D9 RD9
                refine wp_region_quiet_at (C := fun w' => ∃ y : Gr w10, w' = y.now) (by kernel_rfl) (by kernel_rfl) ⟨⟨_, grown_drewN (grown_refl _ _) 1⟩, rfl⟩ ?_
                repeat (go_big_quiet_step (fail))
                refine wpQuiet_nil ?_
                rintro _ ⟨y, rfl⟩
                go_wp2_with fail
                go_roundw
                case rel => exact ⟨j + 1, setUJ R u' j', by go_num, by have := JJ.out.1; omega, by have := JJ.out.2; omega, FIN.out y⟩
                case measure => have := JJ.out.2; simp [intOf]; omega
              · obtain ⟨e1, e2, e3⟩ : p.k = 2 ∧ R.er = p.er ∧ R.tm = p.tm := hcs.resolve_left he
                have elp := HX.out.2.2.2.2 hRd he
                have hne : (R.er != 181) = true := by simpa using he
                have hk2 : (p.k != 2) = false := by rw [e1]; rfl
                have RES : Hid (∀ W, w9.grownBy W none → Calls Try.prog 35 #[ev R.er R.tm j', ev p.er p.tm p.j] W fun e w' => e = .returned (.bool true) ∧ W.grownBy w' none) := fun W gg => by
                  rw [e2, e3]
                  exact res_same p.er p.tm lp j' p.j W (by have := RD9.out.2.grown gg; rwa [elp] at this) (RP.out W (grown_tr G9.out gg)).2
                clear hRd hcs he e1 e2 e3 elp
                go_upto_region 19 with (first
                  | (refine load_r rfl rfl w.heap.size 0 (setUJ R u' j') rfl (K9.out w9 (grown_refl _ _)).1 ?_)
                  | (go_at_call 31; (with_reducible refine CK9.out.mono ?_); rintro e w10 ⟨rfl, g10⟩; have x15 : w10.cell? ⟨w.heap.size, 15, none⟩ = some (.int .i64 R.lf) := (K9.out w10 g10).1 15 _ rfl; have y15 : w10.cell? ⟨q13, 15, none⟩ = some (.int .i64 r.lf) := (K9.out w10 g10).2 15 _ rfl; have x16 : w10.cell? ⟨w.heap.size, 16, none⟩ = some (.bool true) := (by have := (K9.out w10 g10).1 16 _ rfl; rw [show (setUJ R u' j').d = true from HRD.out] at this; exact this); have G10 : Hid (w9.grownBy w10 none) := g10; clear g10))
                clear hle x15 y15 x16 CK9
                have x16 : ∀ y : Gr w10, y.now.cell? ⟨w.heap.size, 16, none⟩ = some (.bool true) := fun y => by have := (K9.out y.now (grown_tr G10.out y.grown)).1 16 _ rfl; rw [show (setUJ R u' j').d = true from HRD.out] at this; exact this
                have x17 : ∀ y : Gr w10, y.now.cell? ⟨w.heap.size, 17, none⟩ = some (.int .i64 R.er) := fun y => (K9.out y.now (grown_tr G10.out y.grown)).1 17 _ rfl
                have x18 : ∀ y : Gr w10, y.now.cell? ⟨w.heap.size, 18, none⟩ = some (.int .i64 R.tm) := fun y => (K9.out y.now (grown_tr G10.out y.grown)).1 18 _ rfl
                have x19 : ∀ y : Gr w10, y.now.cell? ⟨w.heap.size, 19, none⟩ = some (.slice j'.a j'.n j'.c) := fun y => (K9.out y.now (grown_tr G10.out y.grown)).1 19 _ rfl
                have PC : ∀ y : Gr w10, y.now.rangeAt g (o + j * 16) (qc p) := fun y => CP.out y.now (grown_tr G9.out (grown_tr G10.out y.grown))
                have y0 : ∀ y : Gr w10, y.now.cell? ⟨g, o + j * 16, none⟩ = some (.int .i64 p.k) := fun y => PC y 0 _ rfl
                have y2 : ∀ y : Gr w10, y.now.cell? ⟨g, o + j * 16 + 2, none⟩ = some (.int .i64 p.er) := fun y => PC y 2 _ rfl
                have y3 : ∀ y : Gr w10, y.now.cell? ⟨g, o + j * 16 + 3, none⟩ = some (.int .i64 p.tm) := fun y => PC y 3 _ rfl
                have y4 : ∀ y : Gr w10, y.now.cell? ⟨g, o + j * 16 + 4, none⟩ = some (.slice p.j.a p.j.n p.j.c) := fun y => PC y 4 _ rfl
                have RES' : ∀ y : Gr w10, _ := fun y => RES.out y.now (grown_tr G10.out y.grown)
                clear PC RES
                have hne10 : Nonempty (Gr w10) := ⟨w10, grown_refl _ _⟩
                have FIN : Hid (∀ y : Gr w10, w.grownBy y.now none ∧ Cs y.now w.heap.size (rc (setUJ R u' j')) ∧ w.heap.size < y.now.heap.size ∧ Rdw y.now (setUJ R u' j') ∧ (∃ l, Rdj y.now (setUJ R u' j').j l) ∧ rchk (setUJ R u' j') = true ∧ ((setUJ R u' j').d = false → (setUJ R u' j').lf = left - ((j + 1 : Nat) : Int))) := fun y => by
                  have gg := grown_tr G10.out y.grown
                  refine ⟨grown_tr G9.out gg, C9.out.1.grown gg C9.out.2, by have := gg.size; have := C9.out.2; omega, RD9.out.1.grown gg, ⟨lR, RD9.out.2.grown gg⟩, HX.out.1, fun hd => ?_⟩
                  have h1 := HX.out.2.2.1 hd
                  have h2 := LFJ.out
                  show R.lf = _
                  omega
                clear K9 C9 D9 RD9
                refine wp_region_quiet_at (C := fun w' => ∃ y : Gr w10, w' = y.now) (by kernel_rfl) (by kernel_rfl) ⟨⟨_, grown_drewN (grown_refl _ _) 1⟩, rfl⟩ ?_
                repeat (go_big_quiet_step ((go_at_call 35; refine Gr.call (RES' _))))
                refine wpQuiet_nil ?_
                rintro _ ⟨y, rfl⟩
                go_wp2_with fail
                go_roundw
                case rel => exact ⟨j + 1, setUJ R u' j', by go_num, by have := JJ.out.1; omega, by have := JJ.out.2; omega, FIN.out y⟩
                case measure => have := JJ.out.2; simp [intOf]; omega
          | false =>
            obtain ⟨we, wg, wb⟩ := wf hf
            rw [we] at WHX
            rw [wb] at FI
            generalize findS r.m r.nm = S at *
            have WK : Hid (Calls Try.prog 34 #[rv r] wr fun e w' => e = .returned (.tuple #[.int .i64 S.gr, .int .i64 r.nd, .int .i64 S.sh, .int .i64 S.ep]) ∧ wr.grownBy w' none) := WHX
            have hg : (S.gr == 0) = false := by simp; omega
            have hg' : (S.gr != 0) = true := by simp; omega
            have d1 : (S.gr != S.gr) = false := by simp
            have d2 : (S.sh != S.sh) = false := by simp
            have d3 : (S.ep != S.ep) = false := by simp
            have HF : Hid (r.f = false) := hf
            clear hf wt wf WHX p1 p2 p3 p4 we wg wb
            go_upto_region 13 with (first
              | (refine load_r rfl rfl w.heap.size 0 r rfl (KK.out wr (grown_refl _ _)) ?_)
              | (go_at_call 34; (with_reducible refine WK.out.mono ?_); rintro e w1 ⟨rfl, g1⟩; have c16 := C16.out w1 g1; have c1 : w1.cell? ⟨w.heap.size, 1, none⟩ = some (.string r.nm) := KK.out w1 g1 1 _ rfl; have G1 : Hid (wr.grownBy w1 none) := g1; clear g1)
              | (refine ld_a rfl rfl w.heap.size 2 r.m r.u rfl (map_in (KK.out w1 G1.out)) ?_)
              | (go_at_call 10; (with_reducible refine (FI.out _ G1.out).mono ?_); rintro e w2 ⟨rfl, g2⟩))
            have G3 : Hid (wr.grownBy (w2.alloc (.cells (sa S) 29)) none) := grown_alloc (grown_tr G1.out g2) _
            have X3 : Hid ((w2.alloc (.cells (sa S) 29)).rangeAt w2.heap.size 0 (sc S)) := (box_s (grown_refl _ _)).1
            clear g2 c16 c1 WK C16 FI G1
            generalize w2.alloc (.cells (sa S) 29) = v3 at *
            generalize w2.heap.size = q11 at *
            obtain ⟨z0, z1, z2, z3, z4⟩ := cells_s X3.out
            have k0 : v3.cell? ⟨w.heap.size, 0, none⟩ = some (.int .i64 r.n) := KK.out v3 G3.out 0 _ rfl
            have k13 : v3.cell? ⟨w.heap.size, 13, none⟩ = some (.bool false) := by have := KK.out v3 G3.out 13 _ rfl; rw [HF.out] at this; exact this
            clear z0 z1 X3
            go_upto_region 15 with fail
            clear z2 z3 z4 k0 k13 nd1 nd2 hg hg' d1 d2 d3
            go_upto_region 16 with (first
              | (refine load_r rfl rfl w.heap.size 0 r rfl (KK.out v3 G3.out) ?_)
              | (refine store_row (ty := 60) v3.heap.size 0 (ra r) rfl rfl (there_new (z := zra) (t := 60) rfl) (by kernel_rfl) (by simp [Value.oneCell']) ?_; intro w5 h5; have H5 : Hid (w5 = (v3.alloc (.cells zra 60)).setCells v3.heap.size 0 (rc r)) := h5; clear h5))
            obtain ⟨g5, s5, c5⟩ := new_row (w := v3) (z := zra) (cs := rc r) (t := 60) rfl H5.out
            have G5 : Hid (wr.grownBy w5.drew none) := grown_drew (grown_tr G3.out g5)
            have D5 : Hid (Cs w5.drew v3.heap.size (rc r) ∧ v3.heap.size < w5.drew.heap.size ∧ w.heap.size < v3.heap.size) := ⟨c5 _ (grown_drew (grown_refl _ _)), by show v3.heap.size < w5.heap.size; omega, by have h1 := G3.out.size; have h2 := I.out.2.2.1; omega⟩
            clear g5 s5 c5 H5 G3
            generalize v3.heap.size = q13 at *
            have hr5 : w5.drew.rangeAt w.heap.size 0 (rc r) := KK.out _ G5.out
            refine wp_region_held_drew (S := fun W => w.grownBy W none) (by kernel_rfl) (grown_tr I.out.1 G5.out) (fun hHeld => ?_)
            refine wpAnyH_take (i := 1) (v := .slice (some ⟨g, o, none⟩) un yc) rfl (by kernel_rfl) (by kernel_rfl) (by kernel_rfl) (fun _ _ _ h => h) (.inl ⟨by kernel_rfl, fun W _ => by kernel_rfl⟩) hHeld ?_
            simp only [Act.put, List.getElem_toArray, List.getElem_cons_succ, List.getElem_cons_zero, List.setIfInBounds_toArray, List.set_cons_zero, List.set_cons_succ]
            refine wpAnyH_take (i := 2) (v := .int .i64 (j : Int)) rfl (by kernel_rfl) (by kernel_rfl) (by kernel_rfl) (fun _ _ _ h => h) (.inl ⟨by kernel_rfl, fun W _ => by kernel_rfl⟩) hHeld ?_
            simp only [Act.put, List.getElem_toArray, List.getElem_cons_succ, List.getElem_cons_zero, List.setIfInBounds_toArray, List.set_cons_zero, List.set_cons_succ]
            refine wpAnyH_take (i := 3) (v := .pointer (some ⟨g, o + j * 16, none⟩)) rfl (by kernel_rfl) (by kernel_rfl) (by kernel_rfl) (fun _ _ _ h => h) (.inl ⟨by kernel_rfl, fun W _ => by go_simp⟩) hHeld ?_
            simp only [Act.put, List.getElem_toArray, List.getElem_cons_succ, List.getElem_cons_zero, List.setIfInBounds_toArray, List.set_cons_zero, List.set_cons_succ]
            refine wpAnyH_take (i := 4) (v := qv p) rfl (by kernel_rfl) (by kernel_rfl) (by kernel_rfl) (fun _ _ _ h => h) (yieldsIf_load_mid (by kernel_rfl) 66 (.tmp 116) rfl g (o + j * 16) rfl (qc p) _ (fun W hS => CP.out W hS) Try.underlying66 rfl (by kernel_rfl)) hHeld ?_
            simp only [Act.put, List.getElem_toArray, List.getElem_cons_succ, List.getElem_cons_zero, List.setIfInBounds_toArray, List.set_cons_zero, List.set_cons_succ]
            refine wpAnyH_ready (rs := [0]) (by kernel_rfl) (by simp) ?_
            refine AllReadyH.cons (o := _) rfl (fun K hK => ?_) AllReadyH.nil
            rw [if_pos (by rfl)]
            refine wp_load_mid 60 _ rfl w.heap.size 0 rfl (rc r) _ hr5 Try.underlying60 rfl (by kernel_rfl) ?_
            refine hK.out _ _ hHeld (fun hHeld => ?_)
            clear hK K
            simp only [Act.put, List.getElem_toArray, List.getElem_cons_succ, List.getElem_cons_zero, List.setIfInBounds_toArray, List.set_cons_zero, List.set_cons_succ]
            refine wpAnyH_ready (rs := [5]) (by kernel_rfl) (by simp) ?_
            refine AllReadyH.cons (o := _) rfl (fun K hK => ?_) AllReadyH.nil
            go_simp
            refine (HE.out _ G5.out).mono ?_
            rintro e w8 ⟨u', j', rfl, g8, h8⟩
            have G8 : Hid (w5.drew.grownBy w8 none) := g8
            refine hK.out _ _ (grown_tr hHeld g8) (fun hHeld => ?_)
            clear hK K
            refine wpAnyH_ready (rs := [6]) (by kernel_rfl) (by simp) ?_
            refine AllReadyH.cons (o := _) rfl (fun K hK => ?_) AllReadyH.nil
            rw [if_pos (by rfl)]
            have C8 : Cs w8 w.heap.size (rc r) := I.out.2.1.grown (grown_tr G5.out G8.out) I.out.2.2.1
            refine wp_store_mid 60 _ _ rfl w.heap.size 0 (ra (setUJ R u' j')) rfl rfl (C8.there (n := 20) (by simp)) (by kernel_rfl) (by simp [Value.oneCell']) ?_
            obtain ⟨w9, hw9⟩ : ∃ w9, w9 = w8.setCells w.heap.size 0 (ra (setUJ R u' j')).toList := ⟨_, rfl⟩
            rw [← hw9]
            have g89 : w8.grownBy w9 (some w.heap.size) := by rw [hw9]; exact grown_setCells _ _ _ _
            have GW : w.grownBy w9 none := grown_more hHeld g89 (fun k e => .inr (by injection e with e; omega))
            have hh := h8 w9 (Chg.of g89 (fun k e => by injection e with e; have h1 := G5.out.size; have h2 := I.out.2.2.1; omega))
            have C9 : Hid (Cs w9 w.heap.size (rc (setUJ R u' j')) ∧ w.heap.size < w9.heap.size) := ⟨by rw [hw9]; exact C8.sets (rc (setUJ R u' j')) rfl, by have h1 := g89.size; have h2 := G8.out.size; have h3 := G5.out.size; have h4 := I.out.2.2.1; omega⟩
            have D9 : Hid (Cs w9 q13 (rc r) ∧ q13 < w9.heap.size) := ⟨(D5.out.1.grown G8.out D5.out.2.1).but g89 (by have := D5.out.2.2; omega) (by have h1 := G8.out.size; have := D5.out.2.1; omega), by have h1 := g89.size; have h2 := G8.out.size; have := D5.out.2.1; omega⟩
            have RD9 : Hid (Rdw w9 (setUJ R u' j') ∧ Rdj w9 j' lR) := ⟨⟨hh.1, (RD.out _ (grown_tr G5.out G8.out)).z, (RD.out _ (grown_tr G5.out G8.out)).k⟩, hh.2⟩
            clear hHeld g89 hh C8 hw9 h8 g8
            refine hK.out _ _ GW (fun hHeld => ?_)
            clear hK K GW
            refine wpAnyH_done (by kernel_rfl) ?_ _
            have G9 : Hid (w.grownBy w9 none) := hHeld
            clear hHeld hr5 D5 G5 G8 HE KK RD
            have CK9 : Hid (Calls Try.prog 31 #[rv (setUJ R u' j')] w9 fun e w' => e = .returned (.bool true) ∧ w9.grownBy w' none) := by
              have := ochk_any (setUJ R u' j') w9 RD9.out.1
              rwa [show rchk (setUJ R u' j') = true from HX.out.1] at this
            have K9 : Hid (∀ W, w9.grownBy W none → W.rangeAt w.heap.size 0 (rc (setUJ R u' j')) ∧ W.rangeAt q13 0 (rc r)) := fun W gg => ⟨(C9.out.1.grown gg C9.out.2).1, (D9.out.1.grown gg D9.out.2).1⟩
            have hle : ¬ (r.lf < R.lf) := by have := HX.out.2.1; omega
            cases hRd : R.d with
            | false =>
              have hlq : (R.lf != r.lf - 1) = false := by have := HX.out.2.2.1 hRd; simp; omega
              have HRD : Hid (R.d = false) := hRd
              clear hRd
              go_upto_region 19 with (first
                | (refine load_r rfl rfl w.heap.size 0 (setUJ R u' j') rfl (K9.out w9 (grown_refl _ _)).1 ?_)
                | (go_at_call 31; (with_reducible refine CK9.out.mono ?_); rintro e w10 ⟨rfl, g10⟩; have x15 : w10.cell? ⟨w.heap.size, 15, none⟩ = some (.int .i64 R.lf) := (K9.out w10 g10).1 15 _ rfl; have y15 : w10.cell? ⟨q13, 15, none⟩ = some (.int .i64 r.lf) := (K9.out w10 g10).2 15 _ rfl; have x16 : w10.cell? ⟨w.heap.size, 16, none⟩ = some (.bool false) := (by have := (K9.out w10 g10).1 16 _ rfl; rw [show (setUJ R u' j').d = false from HRD.out] at this; exact this); have G10 : Hid (w9.grownBy w10 none) := g10; clear g10))
              clear hle hlq x15 y15 x16 CK9
              have x16 : ∀ y : Gr w10, y.now.cell? ⟨w.heap.size, 16, none⟩ = some (.bool false) := fun y => by have := (K9.out y.now (grown_tr G10.out y.grown)).1 16 _ rfl; rw [show (setUJ R u' j').d = false from HRD.out] at this; exact this
              have hne10 : Nonempty (Gr w10) := ⟨w10, grown_refl _ _⟩
              have FIN : Hid (∀ y : Gr w10, w.grownBy y.now none ∧ Cs y.now w.heap.size (rc (setUJ R u' j')) ∧ w.heap.size < y.now.heap.size ∧ Rdw y.now (setUJ R u' j') ∧ (∃ l, Rdj y.now (setUJ R u' j').j l) ∧ rchk (setUJ R u' j') = true ∧ ((setUJ R u' j').d = false → (setUJ R u' j').lf = left - ((j + 1 : Nat) : Int))) := fun y => by
                have gg := grown_tr G10.out y.grown
                refine ⟨grown_tr G9.out gg, C9.out.1.grown gg C9.out.2, by have := gg.size; have := C9.out.2; omega, RD9.out.1.grown gg, ⟨lR, RD9.out.2.grown gg⟩, HX.out.1, fun hd => ?_⟩
                have h1 := HX.out.2.2.1 hd
                have h2 := LFJ.out
                show R.lf = _
                omega
              clear K9 C9 D9 RD9
              refine wp_region_quiet_at (C := fun w' => ∃ y : Gr w10, w' = y.now) (by kernel_rfl) (by kernel_rfl) ⟨⟨_, grown_drewN (grown_refl _ _) 1⟩, rfl⟩ ?_
              repeat (go_big_quiet_step (fail))
              refine wpQuiet_nil ?_
              rintro _ ⟨y, rfl⟩
              go_wp2_with fail
              go_roundw
              case rel => exact ⟨j + 1, setUJ R u' j', by go_num, by have := JJ.out.1; omega, by have := JJ.out.2; omega, FIN.out y⟩
              case measure => have := JJ.out.2; simp [intOf]; omega
            | true =>
              have HRD : Hid (R.d = true) := hRd
              have hcs := HX.out.2.2.2.1 hRd
              by_cases he : R.er = 181
              · have HE9 : Hid (R.er = 181) := he
                clear hRd hcs he
                go_upto_region 19 with (first
                  | (refine load_r rfl rfl w.heap.size 0 (setUJ R u' j') rfl (K9.out w9 (grown_refl _ _)).1 ?_)
                  | (go_at_call 31; (with_reducible refine CK9.out.mono ?_); rintro e w10 ⟨rfl, g10⟩; have x15 : w10.cell? ⟨w.heap.size, 15, none⟩ = some (.int .i64 R.lf) := (K9.out w10 g10).1 15 _ rfl; have y15 : w10.cell? ⟨q13, 15, none⟩ = some (.int .i64 r.lf) := (K9.out w10 g10).2 15 _ rfl; have x16 : w10.cell? ⟨w.heap.size, 16, none⟩ = some (.bool true) := (by have := (K9.out w10 g10).1 16 _ rfl; rw [show (setUJ R u' j').d = true from HRD.out] at this; exact this); have G10 : Hid (w9.grownBy w10 none) := g10; clear g10))
                clear hle x15 y15 x16 CK9
                have x16 : ∀ y : Gr w10, y.now.cell? ⟨w.heap.size, 16, none⟩ = some (.bool true) := fun y => by have := (K9.out y.now (grown_tr G10.out y.grown)).1 16 _ rfl; rw [show (setUJ R u' j').d = true from HRD.out] at this; exact this
                have x17 : ∀ y : Gr w10, y.now.cell? ⟨w.heap.size, 17, none⟩ = some (.int .i64 181) := fun y => by have := (K9.out y.now (grown_tr G10.out y.grown)).1 17 _ rfl; rw [show (setUJ R u' j').er = 181 from HE9.out] at this; exact this
                have hne10 : Nonempty (Gr w10) := ⟨w10, grown_refl _ _⟩
                have FIN : Hid (∀ y : Gr w10, w.grownBy y.now none ∧ Cs y.now w.heap.size (rc (setUJ R u' j')) ∧ w.heap.size < y.now.heap.size ∧ Rdw y.now (setUJ R u' j') ∧ (∃ l, Rdj y.now (setUJ R u' j').j l) ∧ rchk (setUJ R u' j') = true ∧ ((setUJ R u' j').d = false → (setUJ R u' j').lf = left - ((j + 1 : Nat) : Int))) := fun y => by
                  have gg := grown_tr G10.out y.grown
                  refine ⟨grown_tr G9.out gg, C9.out.1.grown gg C9.out.2, by have := gg.size; have := C9.out.2; omega, RD9.out.1.grown gg, ⟨lR, RD9.out.2.grown gg⟩, HX.out.1, fun hd => ?_⟩
                  have h1 := HX.out.2.2.1 hd
                  have h2 := LFJ.out
                  show R.lf = _
                  omega
                clear K9 C9 D9 RD9
                refine wp_region_quiet_at (C := fun w' => ∃ y : Gr w10, w' = y.now) (by kernel_rfl) (by kernel_rfl) ⟨⟨_, grown_drewN (grown_refl _ _) 1⟩, rfl⟩ ?_
                repeat (go_big_quiet_step (fail))
                refine wpQuiet_nil ?_
                rintro _ ⟨y, rfl⟩
                go_wp2_with fail
                go_roundw
                case rel => exact ⟨j + 1, setUJ R u' j', by go_num, by have := JJ.out.1; omega, by have := JJ.out.2; omega, FIN.out y⟩
                case measure => have := JJ.out.2; simp [intOf]; omega
              · obtain ⟨e1, e2, e3⟩ : p.k = 2 ∧ R.er = p.er ∧ R.tm = p.tm := hcs.resolve_left he
                have elp := HX.out.2.2.2.2 hRd he
                have hne : (R.er != 181) = true := by simpa using he
                have hk2 : (p.k != 2) = false := by rw [e1]; rfl
                have RES : Hid (∀ W, w9.grownBy W none → Calls Try.prog 35 #[ev R.er R.tm j', ev p.er p.tm p.j] W fun e w' => e = .returned (.bool true) ∧ W.grownBy w' none) := fun W gg => by
                  rw [e2, e3]
                  exact res_same p.er p.tm lp j' p.j W (by have := RD9.out.2.grown gg; rwa [elp] at this) (RP.out W (grown_tr G9.out gg)).2
                clear hRd hcs he e1 e2 e3 elp
                go_upto_region 19 with (first
                  | (refine load_r rfl rfl w.heap.size 0 (setUJ R u' j') rfl (K9.out w9 (grown_refl _ _)).1 ?_)
                  | (go_at_call 31; (with_reducible refine CK9.out.mono ?_); rintro e w10 ⟨rfl, g10⟩; have x15 : w10.cell? ⟨w.heap.size, 15, none⟩ = some (.int .i64 R.lf) := (K9.out w10 g10).1 15 _ rfl; have y15 : w10.cell? ⟨q13, 15, none⟩ = some (.int .i64 r.lf) := (K9.out w10 g10).2 15 _ rfl; have x16 : w10.cell? ⟨w.heap.size, 16, none⟩ = some (.bool true) := (by have := (K9.out w10 g10).1 16 _ rfl; rw [show (setUJ R u' j').d = true from HRD.out] at this; exact this); have G10 : Hid (w9.grownBy w10 none) := g10; clear g10))
                clear hle x15 y15 x16 CK9
                have x16 : ∀ y : Gr w10, y.now.cell? ⟨w.heap.size, 16, none⟩ = some (.bool true) := fun y => by have := (K9.out y.now (grown_tr G10.out y.grown)).1 16 _ rfl; rw [show (setUJ R u' j').d = true from HRD.out] at this; exact this
                have x17 : ∀ y : Gr w10, y.now.cell? ⟨w.heap.size, 17, none⟩ = some (.int .i64 R.er) := fun y => (K9.out y.now (grown_tr G10.out y.grown)).1 17 _ rfl
                have x18 : ∀ y : Gr w10, y.now.cell? ⟨w.heap.size, 18, none⟩ = some (.int .i64 R.tm) := fun y => (K9.out y.now (grown_tr G10.out y.grown)).1 18 _ rfl
                have x19 : ∀ y : Gr w10, y.now.cell? ⟨w.heap.size, 19, none⟩ = some (.slice j'.a j'.n j'.c) := fun y => (K9.out y.now (grown_tr G10.out y.grown)).1 19 _ rfl
                have PC : ∀ y : Gr w10, y.now.rangeAt g (o + j * 16) (qc p) := fun y => CP.out y.now (grown_tr G9.out (grown_tr G10.out y.grown))
                have y0 : ∀ y : Gr w10, y.now.cell? ⟨g, o + j * 16, none⟩ = some (.int .i64 p.k) := fun y => PC y 0 _ rfl
                have y2 : ∀ y : Gr w10, y.now.cell? ⟨g, o + j * 16 + 2, none⟩ = some (.int .i64 p.er) := fun y => PC y 2 _ rfl
                have y3 : ∀ y : Gr w10, y.now.cell? ⟨g, o + j * 16 + 3, none⟩ = some (.int .i64 p.tm) := fun y => PC y 3 _ rfl
                have y4 : ∀ y : Gr w10, y.now.cell? ⟨g, o + j * 16 + 4, none⟩ = some (.slice p.j.a p.j.n p.j.c) := fun y => PC y 4 _ rfl
                have RES' : ∀ y : Gr w10, _ := fun y => RES.out y.now (grown_tr G10.out y.grown)
                clear PC RES
                have hne10 : Nonempty (Gr w10) := ⟨w10, grown_refl _ _⟩
                have FIN : Hid (∀ y : Gr w10, w.grownBy y.now none ∧ Cs y.now w.heap.size (rc (setUJ R u' j')) ∧ w.heap.size < y.now.heap.size ∧ Rdw y.now (setUJ R u' j') ∧ (∃ l, Rdj y.now (setUJ R u' j').j l) ∧ rchk (setUJ R u' j') = true ∧ ((setUJ R u' j').d = false → (setUJ R u' j').lf = left - ((j + 1 : Nat) : Int))) := fun y => by
                  have gg := grown_tr G10.out y.grown
                  refine ⟨grown_tr G9.out gg, C9.out.1.grown gg C9.out.2, by have := gg.size; have := C9.out.2; omega, RD9.out.1.grown gg, ⟨lR, RD9.out.2.grown gg⟩, HX.out.1, fun hd => ?_⟩
                  have h1 := HX.out.2.2.1 hd
                  have h2 := LFJ.out
                  show R.lf = _
                  omega
                clear K9 C9 D9 RD9
                refine wp_region_quiet_at (C := fun w' => ∃ y : Gr w10, w' = y.now) (by kernel_rfl) (by kernel_rfl) ⟨⟨_, grown_drewN (grown_refl _ _) 1⟩, rfl⟩ ?_
                repeat (go_big_quiet_step ((go_at_call 35; refine Gr.call (RES' _))))
                refine wpQuiet_nil ?_
                rintro _ ⟨y, rfl⟩
                go_wp2_with fail
                go_roundw
                case rel => exact ⟨j + 1, setUJ R u' j', by go_num, by have := JJ.out.1; omega, by have := JJ.out.2; omega, FIN.out y⟩
                case measure => have := JJ.out.2; simp [intOf]; omega
end routeEnds
end Go.Proofs.Ytlolhdijadhklaa
