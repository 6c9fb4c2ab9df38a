/- With the map at hand a way leads to the span in which the name lies: the walk of the statement. -/
import Derived.Test.YtlolhdijadhklaaOMath
import Derived.Test.YtlolhdijadhklaaOArgs
import Derived.Test.YtlolhdijadhklaaAAwM
namespace Go.Proofs.Ytlolhdijadhklaa
open Go.RowKit Atl
set_option linter.unusedVariables false
set_option linter.unusedSimpArgs false
set_option maxRecDepth 10000

def nA : ByteArray := ⟨#[97]⟩
theorem find_A : findS mA nA = s11 ∧ named nA = true := by
  have hn : named nA = true := by decide
  have hf : fnd mA.l nA = 0 := by
    unfold fnd
    rw [show mA.l = [s11] from rfl]
    have : ends s11 nA = true := by
      unfold ends
      rw [show s11.up = em from rfl, em_list]
      rfl
    simp [List.findIdx_cons, this]
  refine ⟨?_, hn⟩
  unfold findS findB
  rw [hn, chk_is.2 rgt_A, hf]
  rfl
theorem szm_A : Szm mA := by
  refine ⟨fun s hs => ?_, by decide⟩
  simp [mA] at hs
  subst hs
  exact ⟨by decide, by decide⟩
theorem whr_A (u : S3) : whr (yesW 3 nA 5 mA u) = (1, 1, 1, 1) := by
  rw [whr_yes (by unfold begOk; rw [find_A.2]; decide) (chk_is.2 rgt_A), find_A.1]
  rfl

namespace topRoutes
set_option maxRecDepth 100000 in
set_option maxHeartbeats 64000000 in
theorem walk (w : World) (v0 : Value) (o0 : ∃ (a : Am) (u : S3), v0 = av a u ∧ Rat w a u ∧ Szm a) (v1 : Value) (o1 : ∃ (u : S3) (l : List ByteArray), v1 = .slice u.a u.n u.c ∧ Rnm w u l) (n : Int) (wx2 : (Lit.int .i64 n).wf = true) :
    Calls Try.prog 8 #[v0, v1, .int .i64 n] w fun e w' => e = .returned (.bool true) ∧ Below w.heap.size w w' := by
  obtain ⟨a, u, rfl, hr, hz⟩ := o0
  obtain ⟨⟨ya, un, yc⟩, l, rfl, hl⟩ := o1
  simp only at hl ⊢
  clear wx2
  have NW : Hid (∀ W, Calls Try.prog 12 #[.int .i64 2] W fun e w' => Res W mA 0 e w') := fun W => by
    have := new_any 2 W
    rwa [new_A.1, new_A.2] at this
  have BA : Hid (∀ W u, Rat W mA u → Calls Try.prog 36 #[.int .i64 3, .string ⟨#[97]⟩, av mA u, .int .i64 5] W fun e w' => ∃ u', e = .returned (.tuple #[rv (yesW 3 nA 5 mA u'), .int .i64 0]) ∧ Rat w' mA u' ∧ W.grownBy w' none ∧ _) := fun W u r => begin_yes 3 nA mA u 5 W r (szm_A) (by decide) (by unfold begOk; rw [find_A.2]; decide) (chk_is.2 rgt_A)
  have WA : Hid (∀ W u, Rat W mA u → Calls Try.prog 34 #[rv (yesW 3 nA 5 mA u)] W fun e w' => e = .returned (.tuple #[.int .i64 1, .int .i64 1, .int .i64 1, .int .i64 1]) ∧ W.grownBy w' none) := fun W u r => by
    have := where_any (yesW 3 nA 5 mA u) W ⟨r, szm_A, by show nA.size ≤ _; decide⟩
    rwa [whr_A] at this
  obtain ⟨W0, hW0⟩ : ∃ W0, W0 = w.alloc (.cells (aa a u) 26) := ⟨_, rfl⟩
  have G0 : Hid (w.grownBy W0 none) := by rw [hW0]; exact World.grownBy_alloc _ _ none
  have CA : Hid (∀ W, W0.grownBy W none → W.rangeAt w.heap.size 0 (ac a u)) := fun W g => by rw [hW0] at g; exact (cs_new g).1
  have Z0 : Hid (W0.heap.size = w.heap.size + 1) := (by rw [hW0]; simp : _ = _)
  have HW0 : Hid (W0 = _) := hW0
  have RA : Hid (Rat w a u ∧ Szm a) := ⟨hr, hz⟩
  have RL : Hid (Rnm w ⟨ya, un, yc⟩ l) := hl
  clear hW0 hr hz hl
  go_enter Try.func8, Try.ntmps8
  go_upto_region 1 with fail
  rw [← HW0.out]
  go_upto_region 2 with (go_at_call 12; (with_reducible refine (NW.out _).mono ?_); rintro e w1 ⟨u1, rfl, r1, g1, _⟩)
  have R1 : Hid (Rat (w1.alloc (.cells (aa mA u1) 26)) mA u1) := r1.grown (World.grownBy_alloc _ _ none)
  have X1 : Hid ((w1.alloc (.cells (aa mA u1) 26)).rangeAt w1.heap.size 0 (ac mA u1)) := (cs_new (grown_refl _ _)).1
  have G1 : Hid (W0.grownBy (w1.alloc (.cells (aa mA u1) 26)) none) := grown_alloc g1 _
  clear NW r1 g1 HW0
  generalize w1.alloc (.cells (aa mA u1) 26) = v1 at *
  generalize w1.heap.size = q1 at *
  go_upto_region 3 with (first
    | (refine ld_a rfl rfl q1 0 mA u1 rfl X1.out ?_)
    | (go_at_call 36; (with_reducible refine (BA.out _ _ R1.out).mono ?_); rintro e w2 ⟨u2, rfl, r2, g2, _⟩)
    | (refine store_row (ty := 60) w2.heap.size 0 (ra (yesW 3 nA 5 mA u2)) rfl rfl (there_new (z := zra) (t := 60) rfl) (by kernel_rfl) (by simp [Value.oneCell']) ?_; intro w3 h3; have H3 : Hid (w3 = (w2.alloc (.cells zra 60)).setCells w2.heap.size 0 (rc (yesW 3 nA 5 mA u2))) := h3; clear h3))
  obtain ⟨g3, s3, c3⟩ := new_row (w := w2) (z := zra) (cs := rc (yesW 3 nA 5 mA u2)) (t := 60) rfl H3.out
  have R2 : Hid (Rat w3 mA u2) := r2.grown g3
  have G3 : Hid (W0.grownBy w3 none) := grown_tr G1.out (grown_tr g2 g3)
  have C3 : Hid (∀ W, w3.grownBy W none → Cs W w2.heap.size (rc (yesW 3 nA 5 mA u2))) := c3
  have S3' : Hid (w.heap.size + 1 ≤ w2.heap.size ∧ w2.heap.size < w3.heap.size) := ⟨by have h1 := G1.out.size; have h2 := g2.size; have h3 := Z0.out; omega, by omega⟩
  clear r2 g2 g3 s3 c3 H3 BA R1 X1 G1
  generalize w2.heap.size = q9 at *
  go_upto_region 4 with (first
    | (refine load_r rfl rfl q9 0 (yesW 3 nA 5 mA u2) rfl (C3.out w3 (grown_refl _ _)).1 ?_)
    | (go_at_call 34; (with_reducible refine (WA.out _ _ R2.out).mono ?_); rintro e w4 ⟨rfl, g4⟩))
  have G4 : Hid (W0.grownBy w4 none) := grown_tr G3.out g4
  have C4 : Hid (Cs w4 q9 (rc (yesW 3 nA 5 mA u2))) := C3.out w4 g4
  have S4 : Hid (w.heap.size + 1 ≤ q9 ∧ q9 < w4.heap.size) := ⟨S3'.out.1, by have := g4.size; have := S3'.out.2; omega⟩
  clear g4 R2 G3 C3 S3' WA
  have LN : Hid (un = l.length ∧ l.length ≤ 140737488355328) := ⟨RL.out.1, RL.out.2.2⟩
  have unB : (un : Int) ≤ 140737488355328 := by have h1 := LN.out.1; have h2 := LN.out.2; omega
  have FI : Hid (∀ W k, W0.grownBy W none → k.size ≤ 140737488351232 → Calls Try.prog 10 #[av a u, .string k] W fun e w' => e = .returned (.tuple #[sv (findS a k), .bool (findB a k)]) ∧ W.grownBy w' none) := fun W k g hk => find_any a u k W (RA.out.1.grown (grown_tr G0.out g)) RA.out.2 hk
  have BG : Hid (∀ W (k : ByteArray), W0.grownBy W none → k.size ≤ 140737488351232 → _) := fun W k g hk => begin_all n k a u 5 W (RA.out.1.grown (grown_tr G0.out g)) RA.out.2 hk
  have WH : Hid (∀ W k u', Rat W a u' → k.size ≤ 140737488351232 → begOk n k 5 = true → chk a = true → Calls Try.prog 34 #[rv (yesW n k 5 a u')] W fun e w' => e = .returned (.tuple #[.int .i64 (findS a k).gr, .int .i64 1, .int .i64 (findS a k).sh, .int .i64 (findS a k).ep]) ∧ W.grownBy w' none) := fun W k u' r hk hb hc => by
    have := where_any (yesW n k 5 a u') W ⟨r, RA.out.2, hk⟩
    rwa [whr_yes hb hc] at this
  have I0 : Hid (W0.grownBy w4 none ∧ Cs w4 q9 (rc (yesW 3 nA 5 mA u2)) ∧ q9 < w4.heap.size) := ⟨G4.out, C4.out, S4.out.2⟩
  have Q9 : Hid (w.heap.size + 1 ≤ q9) := S4.out.1
  have RN : Hid (∀ W, W0.grownBy W none → Rnm W ⟨ya, un, yc⟩ l) := fun W g => RL.out.grown (grown_tr G0.out g)
  clear G4 C4 S4 RA RL
  go_upto_region 7 with fail
  go_loopw [10, 11, 12, 13, 14, 15, 16, 17] (fun _ _ _ _ _ i _ _ wr => ∃ (j : Nat) (r : Wy), j ≤ un ∧ j ≤ 100 ∧ i = .int .i64 (j : Int) ∧ Hid (W0.grownBy wr none ∧ Cs wr q9 (rc r) ∧ q9 < wr.heap.size)) (fun _ _ _ _ _ i _ _ _ => 100 - (intOf i).toNat)
  case atStart => exact ⟨0, _, by omega, by omega, rfl, I0⟩
  case round =>
    clear I0
    obtain ⟨j, r, hj, hj2, rfl, I⟩ := hrel
    by_cases hlt : j < un
    · by_cases h100 : j < 100
      · obtain ⟨k, hk⟩ : ∃ k, l[j]? = some k := ⟨_, List.getElem?_eq_getElem (by have := LN.out.1; omega)⟩
        obtain ⟨ks, g, o, e, ck⟩ := (RN.out wr I.out.1).2.1 j k hk
        simp only at e
        subst e
        have KS : Hid (k.size ≤ 140737488351232) := ks
        have CK : Hid (∀ W, W0.grownBy W none → W.cell? ⟨g, o + j, none⟩ = some (.string k)) := fun W gg => by
          obtain ⟨_, g', o', e', c'⟩ := (RN.out W gg).2.1 j k hk
          simp only [Option.some.injEq, Addr.mk.injEq] at e'
          obtain ⟨rfl, rfl, _⟩ := e'
          exact c'
        have hjn : ((j : Int)).toNat = j := by omega
        have hj0 : 0 ≤ (j : Int) := by omega
        have hlt' : (j : Int) < (un : Int) := by omega
        have h100' : (j : Int) < 100 := by omega
        have GB : Hid (W0.grownBy (wr.alloc (.cells #[.string ⟨#[]⟩, .string ⟨#[]⟩, .int .i64 0, .int .i64 0, .int .i64 0] 29)).drew none) := grown_drew (grown_alloc I.out.1 _)
        have YS : Hid (∀ {W : World}, ((wr.alloc (.cells #[.string ⟨#[]⟩, .string ⟨#[]⟩, .int .i64 0, .int .i64 0, .int .i64 0] 29)).drew).grownBy W none → Cs W wr.heap.size (sc Atl.zS)) := fun {W} g => cs_new (grown_tr (grown_drew (grown_refl _ _)) g)
        have Q1 : Hid (∀ W, wr.grownBy W none → Cs W q9 (rc r) ∧ q9 < W.heap.size) := fun W gg => ⟨I.out.2.1.grown gg I.out.2.2, by have h1 := gg.size; have h2 := I.out.2.2; omega⟩
        have ck0 := CK.out wr I.out.1
        have ck1 := CK.out _ GB.out
        obtain ⟨a0, a1, a2, a3, a4, a5, a6, a7, a8, a9, a10⟩ := cells_a (CA.out wr I.out.1)
        obtain ⟨b0, b1, b2, b3, b4, b5, b6, b7, b8, b9, b10⟩ := cells_a (CA.out _ GB.out)
        have FK : Hid (∀ W, W0.grownBy W none → Calls Try.prog 10 #[av a u, .string k] W fun e w' => e = .returned (.tuple #[sv (findS a k), .bool (findB a k)]) ∧ W.grownBy w' none) := fun W gg => FI.out W k gg KS.out
        generalize hS : findS a k = S at *
        generalize hB : findB a k = fb at *
        have HS : Hid (findS a k = S ∧ findB a k = fb) := ⟨hS, hB⟩
        clear ks hk hj hj2 hlt h100 ck hS hB
        go_upto_region 9 with fail
        go_cut [16, 17] from 56 to 75 (fun t16 t17 wx => ∃ q2, t16 = .pointer (some ⟨q2, 0, none⟩) ∧ t17 = .bool fb ∧ Hid (wr.grownBy wx none ∧ wx.rangeAt q2 0 (sc S) ∧ q2 ≠ q9))
        case first =>
          go_region_with (first | (go_at_call 10; (with_reducible refine (FK.out _ ?_).mono ?_); (first | exact grown_drew I.out.1 | exact GB.out); rintro e w8 ⟨rfl, g8⟩; first | (have gg := grown_tr (grown_drew (grown_refl wr none)) g8) | (have gg := grown_tr (grown_drew (grown_alloc (grown_refl wr none) _)) g8; have y := YS.out g8; obtain ⟨y0, y1, y2, y3, y4⟩ := cells_s (s := Atl.zS) y.1; have fz := y.2)))
          all_goals
            go_wp2_with fail
            go_meet
            first
              | (refine ⟨w8.heap.size, rfl, rfl, ?_⟩; exact ⟨grown_alloc gg _, (cs_new (C := sa S) (t := 29) (grown_refl _ _)).1, by have h1 := gg.size; have h2 := I.out.2.2; omega⟩)
              | (refine ⟨wr.heap.size, rfl, rfl, ?_⟩; exact ⟨grown_more gg (grown_setCells wr.heap.size (sc S) 0 w8) (fun k e => .inr (by injection e with e; omega)), ((YS.out g8).sets (sc S) rfl).1, by have h2 := I.out.2.2; omega⟩)
        case rest =>
          obtain ⟨q2', rfl, rfl, CF⟩ := hcut
          have GC : Hid (W0.grownBy wc none) := grown_tr I.out.1 CF.out.1
          have BK : Hid (Calls Try.prog 36 #[.int .i64 n, .string k, av a u, .int .i64 5] wc.drew _) := BG.out _ k (grown_drew GC.out) KS.out
          have QC : Hid (∀ W, wc.grownBy W none → Cs W q9 (rc r) ∧ q9 < W.heap.size) := fun W gg => Q1.out W (grown_tr CF.out.1 gg)
          have XC : Hid (∀ W, wc.grownBy W (some q9) → W.rangeAt q2' 0 (sc S)) := fun W gg => by
            intro i v hi
            exact (Chg.of (F := fun k => k = q9) gg (fun k e => by injection e with e; exact e.symm)).cell (CF.out.2.1 i v hi) CF.out.2.2
          have Q0 : Hid (W0.heap.size ≤ q9) := (by have h1 := Z0.out; have h2 := Q9.out; omega : _ ≤ _)
          clear ck0 ck1 a0 a1 a2 a3 a4 a5 a6 a7 a8 a9 a10 b0 b1 b2 b3 b4 b5 b6 b7 b8 b9 b10 GB YS FK Q1 CF I
          go_upto_region 10 with fail
          refine wp_region_held_drew (S := fun W => W0.grownBy W none) (by kernel_rfl) (grown_drew GC.out) (fun hHeld => ?_)
          refine wpAnyH_take (i := 0) (v := .int .i64 n) rfl (by kernel_rfl) (by kernel_rfl) (by kernel_rfl) (fun _ _ _ h => h) (.inl ⟨rfl, fun W _ => rfl⟩) hHeld ?_
          simp only [Act.put, List.setIfInBounds_toArray, List.set_cons_zero, List.set_cons_succ]
          refine wpAnyH_take (i := 1) (v := .slice (some ⟨g, o, none⟩) un yc) rfl (by kernel_rfl) (by kernel_rfl) (by kernel_rfl) (fun _ _ _ h => h) (.inl ⟨rfl, fun W _ => rfl⟩) hHeld ?_
          simp only [Act.put, List.setIfInBounds_toArray, List.set_cons_zero, List.set_cons_succ]
          refine wpAnyH_take (i := 2) (v := .int .i64 (j : Int)) rfl (by kernel_rfl) (by kernel_rfl) (by kernel_rfl) (fun _ _ _ h => h) (.inl ⟨rfl, fun W _ => rfl⟩) hHeld ?_
          simp only [Act.put, List.setIfInBounds_toArray, List.set_cons_zero, List.set_cons_succ]
          refine wpAnyH_take (i := 3) (v := .pointer (some ⟨g, o + j, none⟩)) rfl (by kernel_rfl) (by kernel_rfl) (by kernel_rfl) (fun _ _ _ h => h) (.inl ⟨rfl, fun W _ => by go_simp⟩) hHeld ?_
          simp only [Act.put, List.setIfInBounds_toArray, List.set_cons_zero, List.set_cons_succ]
          refine wpAnyH_take (i := 4) (v := .string k) rfl (by kernel_rfl) (by kernel_rfl) (by kernel_rfl) (fun _ _ _ h => h) (.inl ⟨rfl, fun W hS => by have ck := CK.out W hS; go_simp⟩) hHeld ?_
          simp only [Act.put, List.setIfInBounds_toArray, List.set_cons_zero, List.set_cons_succ]
          refine wpAnyH_take (i := 5) (v := av a u) rfl (by kernel_rfl) (by kernel_rfl) (by kernel_rfl) (fun _ _ _ h => h) (yieldsIf_load_mid rfl 26 (.tmp 3) rfl w.heap.size 0 rfl (ac a u) _ (fun W hS => CA.out W hS) Try.underlying26 rfl (by kernel_rfl)) hHeld ?_
          simp only [Act.put, List.setIfInBounds_toArray, List.set_cons_zero, List.set_cons_succ]
          refine wpAnyH_ready (rs := [6]) (by kernel_rfl) (by simp) ?_
          refine AllReadyH.cons (o := _) rfl (fun K hK => ?_) AllReadyH.nil
          go_simp
          refine BK.out.mono ?_
          rintro e w8 ⟨r', er, rfl, g8, p8⟩
          have G8 : Hid (wc.grownBy w8 none) := grown_tr (grown_drew (grown_refl wc none)) g8
          have P8 : Hid (er = 0 → chk a = true → ∃ u', r' = yesW n k 5 a u' ∧ begOk n k 5 = true ∧ Rat w8 a u' ∧ ∀ k, (Value.slice u'.a u'.n u'.c).ownBlock = some k → wc.heap.size ≤ k) := p8
          clear g8 p8 BK
          refine hK.out _ _ (grown_tr GC.out G8.out) (fun hHeld => ?_)
          clear hK K
          refine wpAnyH_take (i := 7) (v := .tuple #[rv r', .int .i64 er]) rfl (by kernel_rfl) (by kernel_rfl) (by kernel_rfl) (fun _ _ _ h => h) (.inl ⟨rfl, fun W _ => rfl⟩) hHeld ?_
          simp only [Act.put, List.setIfInBounds_toArray, List.set_cons_zero, List.set_cons_succ]
          refine wpAnyH_take (i := 8) (v := rv r') rfl (by kernel_rfl) (by kernel_rfl) (by kernel_rfl) (fun _ _ _ h => h) (.inl ⟨rfl, fun W _ => rfl⟩) hHeld ?_
          simp only [Act.put, List.setIfInBounds_toArray, List.set_cons_zero, List.set_cons_succ]
          refine wpAnyH_take (i := 9) (v := .int .i64 er) rfl (by kernel_rfl) (by kernel_rfl) (by kernel_rfl) (fun _ _ _ h => h) (.inl ⟨rfl, fun W _ => rfl⟩) hHeld ?_
          simp only [Act.put, List.setIfInBounds_toArray, List.set_cons_zero, List.set_cons_succ]
          refine wpAnyH_ready (rs := [10]) (by kernel_rfl) (by simp) ?_
          refine AllReadyH.cons (o := _) rfl (fun K hK => ?_) AllReadyH.nil
          rw [if_pos (by rfl)]
          refine wp_store_mid 60 _ _ rfl q9 0 (ra r') rfl rfl ((QC.out w8 G8.out).1.there (n := 20) (by simp)) (by kernel_rfl) (by simp [Value.oneCell']) ?_
          obtain ⟨w9, hw9⟩ : ∃ w9, w9 = w8.setCells q9 0 (ra r').toList := ⟨_, rfl⟩
          have g89 : w8.grownBy w9 (some q9) := by rw [hw9]; exact grown_setCells _ _ _ _
          have H9 : Hid (wc.grownBy w9 (some q9) ∧ Cs w9 q9 (rc r') ∧ q9 < w9.heap.size) := ⟨grown_more (grown_more (grown_refl wc (some q9)) G8.out (by simp)) g89 (fun k e => .inl e), by rw [hw9]; exact (QC.out w8 G8.out).1.sets (rc r') rfl, by have h1 := g89.size; have h2 := (QC.out w8 G8.out).2; omega⟩
          have P9 : Hid (er = 0 → chk a = true → ∃ u', r' = yesW n k 5 a u' ∧ begOk n k 5 = true ∧ Rat w9 a u') := fun h1 h2 => by
            obtain ⟨u', e1, e2, r3, b3⟩ := P8.out h1 h2
            have h0 := (QC.out wc (grown_refl _ _)).2
            exact ⟨u', e1, e2, r3.kept (Chg.of (F := fun k => k = q9) g89 (fun k e => by injection e with e; exact e.symm)) (fun _ k hk e => by have := b3 k hk; omega)⟩
          have g9 : W0.grownBy w9 none := grown_more hHeld g89 (fun k e => .inr (by injection e with e; have := Q0.out; omega))
          rw [← hw9]
          clear hHeld g89 P8 G8 hw9
          refine hK.out _ _ g9 (fun hHeld => ?_)
          clear hK K g9
          refine wpAnyH_take (i := 11) (v := .int .i64 er) rfl (by kernel_rfl) (by kernel_rfl) (by kernel_rfl) (fun _ _ _ h => h) (.inl ⟨rfl, fun W _ => rfl⟩) hHeld ?_
          simp only [Act.put, List.setIfInBounds_toArray, List.set_cons_zero, List.set_cons_succ]
          refine wpAnyH_done (by kernel_rfl) ?_ _
          have G9 : Hid (W0.grownBy w9 none) := hHeld
          clear hHeld QC
          cases he : (er != 0) with
          | true =>
            go_wp2_with fail
            go_roundw
            case rel => exact ⟨j + 1, r', by omega, by omega, by go_num, G9.out, H9.out.2⟩
            case measure => simp [intOf]; omega
          | false =>
            have e0 : er = 0 := by simpa using he
            have E0 : Hid (er = 0) := e0
            clear e0
            cases fb with
            | false =>
              go_wp2_with fail
              go_roundw
              case rel => exact ⟨j + 1, r', by omega, by omega, by go_num, G9.out, H9.out.2⟩
              case measure => simp [intOf]; omega
            | true =>
              have hfb := HS.out.2
              unfold findB at hfb
              simp only [Bool.and_eq_true] at hfb
              obtain ⟨u', e1, e2, r9⟩ := P9.out E0.out hfb.2
              have E1 : Hid (r' = yesW n k 5 a u') := e1
              have C9 : Hid (Cs w9 q9 (rc (yesW n k 5 a u'))) := by have := H9.out.2.1; rwa [e1] at this
              have WK : Hid (Calls Try.prog 34 #[rv (yesW n k 5 a u')] w9 fun e w' => e = .returned (.tuple #[.int .i64 S.gr, .int .i64 1, .int .i64 S.sh, .int .i64 S.ep]) ∧ w9.grownBy w' none) := by
                have := WH.out w9 k u' r9 KS.out e2 hfb.2
                rwa [HS.out.1] at this
              have d1 : (S.gr != S.gr) = false := by simp
              have d2 : (S.sh != S.sh) = false := by simp
              have d3 : (S.ep != S.ep) = false := by simp
              clear e1 e2 r9 hfb P9
              go_upto_region 13 with (first
                | (refine load_r rfl rfl q9 0 (yesW n k 5 a u') rfl C9.out.1 ?_)
                | (go_at_call 34; (with_reducible refine WK.out.mono ?_); rintro e w12 ⟨rfl, g12⟩))
              have G12 : Hid (W0.grownBy w12 none) := grown_tr G9.out g12
              have C12 : Hid (Cs w12 q9 (rc (yesW n k 5 a u')) ∧ q9 < w12.heap.size) := ⟨C9.out.grown g12 H9.out.2.2, by have := g12.size; have := H9.out.2.2; omega⟩
              obtain ⟨z0, z1, z2, z3, z4⟩ := cells_s (XC.out w12 (grown_more H9.out.1 g12 (by simp)))
              clear z0 z1 g12 WK C9
              go_wp2_with fail
              go_roundw
              case rel => exact ⟨j + 1, _, by omega, by omega, by go_num, G12.out, C12.out⟩
              case measure => simp [intOf]; omega
      · have h100' : ¬ (j : Int) < 100 := by omega
        have hlt' : (j : Int) < (un : Int) := by omega
        clear hj hj2 hlt h100
        go_wp2_with fail
        go_ret
        exact ⟨rfl, grown_below (grown_tr G0.out I.out.1)⟩
    · have hlt' : ¬ (j : Int) < (un : Int) := by omega
      clear hj hj2 hlt
      go_wp2_with fail
      go_ret
      exact ⟨rfl, grown_below (grown_tr G0.out I.out.1)⟩
end topRoutes
end Go.Proofs.Ytlolhdijadhklaa
