/- A shard that was parted and joined again has its range and its group, one that was moved its range; each time its epoch has grown: the walk of the statement. -/
import Derived.Test.YtkidhnlombhhnaaAAwake
import Derived.Test.YtkidhnlombhhnaaABackM
import Derived.Test.YtkidhnlombhhnaaARef1
import Derived.Test.YtkidhnlombhhnaaAArgs
namespace Go.Proofs.Ytkidhnlombhhnaa
open Go.RowKit Atl
set_option linter.unusedVariables false
set_option maxRecDepth 10000

namespace atlasBack
set_option maxRecDepth 100000 in
set_option maxHeartbeats 64000000 in
theorem walk (w : World) (v0 : Value) (o0 : ∃ (a : Am) (u : S3), v0 = av a u ∧ Rat w a u ∧ Szm a) (x : Int) (wx1 : (Lit.int .i64 x).wf = true) (v2 : Value) (o2 : ∃ k : ByteArray, v2 = .string k ∧ k.size ≤ 140737488351232) (gn : Int) (wx3 : (Lit.int .i64 gn).wf = true) :
    Calls Try.prog 6 #[v0, .int .i64 x, v2, .int .i64 gn] w fun e w' => e = .returned (.bool true) ∧ Below w.heap.size w w' := by
  obtain ⟨a, u, rfl, hr, hz⟩ := o0
  obtain ⟨key, rfl, hk⟩ := o2
  clear wx1 wx3
  have AW : Hid (∀ W, _) := fun W => awake_any W
  have PL : Hid (∀ W, w.grownBy W none → Calls Try.prog 24 #[av a u, .int .i64 x] W fun e w' => e = .returned (.int .i64 (plc a.l x)) ∧ W.grownBy w' none) := fun W g => rplace_any a u x W (hr.grown g)
  have CK : Hid (∀ W, w.grownBy W none → Calls Try.prog 14 #[av a u] W fun e w' => e = .returned (.bool (chk a)) ∧ W.grownBy w' none) := fun W g => check_any a u W (hr.grown g) hz
  have BS : Hid (∀ W, w.grownBy W none → Calls Try.prog 17 #[av a u, .agg #[.int .i64 2, .int .i64 0, .int .i64 x, .int .i64 0, .int .i64 0, .int .i64 0, .int .i64 0, .string key]] W fun e w' => Res W (begM a (plS x key)) (begE a (plS x key)) e w') := fun W g => begin_any a u (plS x key) W (hr.grown g) hz hk
  have BM : Hid (∀ W, w.grownBy W none → Calls Try.prog 17 #[av a u, .agg #[.int .i64 1, .int .i64 0, .int .i64 x, .int .i64 0, .int .i64 gn, .int .i64 0, .int .i64 0, .string ⟨#[]⟩]] W fun e w' => Res W (begM a (plM x gn)) (begE a (plM x gn)) e w') := fun W g => begin_any a u (plM x gn) W (hr.grown g) hz (by show (⟨#[]⟩ : ByteArray).size ≤ _; decide)
  have BJ : Hid (∀ (M : Am) v W, Rgt M → Rat W M v → Calls Try.prog 17 #[av M v, .agg #[.int .i64 3, .int .i64 0, .int .i64 x, .int .i64 0, .int .i64 0, .int .i64 0, .int .i64 0, .string ⟨#[]⟩]] W fun e w' => Res W (begM M (plJ x)) (begE M (plJ x)) e w') := fun M v W h r => begin_any M v (plJ x) W r (szm_of h) (by show (⟨#[]⟩ : ByteArray).size ≤ _; decide)
  have AV : Hid (∀ (M : Am) v n W, Rgt M → peq M.p zP = false → M.p.ph = n → Rat W M v → Calls Try.prog 19 #[av M v, .int .i64 n] W fun e w' => Res W (Atl.step M) 0 e w') := fun M v n W h hp e r => by
    subst e
    have := advance_any M v M.p.ph W r (szm_of h)
    rwa [(adv_on h hp).1, (adv_on h hp).2] at this
  have RA : Hid (Rat w a u) := hr
  obtain ⟨W0, hW0⟩ : ∃ W0, W0 = w.alloc (.cells (aa a u) 26) := ⟨_, rfl⟩
  have G0 : Hid (w.grownBy W0 none) := by rw [hW0]; exact World.grownBy_alloc _ _ none
  have CA : Hid (∀ W, W0.grownBy W none → W.rangeAt w.heap.size 0 (ac a u)) := fun W g => by rw [hW0] at g; exact (cs_new g).1
  have HW0 : Hid (W0 = _) := hW0
  clear hW0 hr hz hk
  go_enter Try.func6, Try.ntmps6
  go_upto_region 1 with fail
  rw [← HW0.out]
  go_upto_region 4 with (first
    | (go_at_call 9; (with_reducible refine (AW.out _).mono ?_); rintro e w1 ⟨rfl, g1⟩)
    | (refine load_a w.heap.size 0 a u rfl (CA.out w1 g1) ?_)
    | (go_at_call 24; (with_reducible refine (PL.out _ (grown_tr G0.out g1)).mono ?_); rintro e w2 ⟨rfl, g2⟩))
  have G2 : Hid (W0.grownBy w2 none) := grown_tr g1 g2
  clear AW PL g1 g2
  have CKK := CK.out w2 (grown_tr G0.out G2.out)
  cases hc : chk a with
  | false =>
    rw [hc] at CKK
    clear hc
    go_wp2_with (first
      | (refine load_a w.heap.size 0 a u rfl (CA.out w2 G2.out) ?_)
      | (go_at_call 14; (with_reducible refine CKK.mono ?_); rintro e w3 ⟨rfl, g3⟩; have FIN : Hid (w.grownBy w3 none) := grown_tr G0.out (grown_tr G2.out g3)))
    go_ret
    exact ⟨rfl, grown_below FIN.out⟩
  | true =>
    have RG := chk_is.1 hc
    have KZ := kind_zero RG
    rw [hc] at CKK
    clear hc
    by_cases hk0 : ¬ a.p.k = 0
    · have h0 : (a.p.k != 0) = true := by simpa using hk0
      clear RG KZ
      go_wp2_with (first
        | (refine load_a w.heap.size 0 a u rfl (CA.out w2 G2.out) ?_)
        | (go_at_call 14; (with_reducible refine CKK.mono ?_); rintro e w3 ⟨rfl, g3⟩; have FIN : Hid (w.grownBy w3 none) := grown_tr G0.out (grown_tr G2.out g3); have a3 := (cells_a (CA.out w3 (grown_tr G2.out g3))).2.2.2.1))
      go_ret
      exact ⟨rfl, grown_below FIN.out⟩
    · have hk0 : a.p.k = 0 := Classical.not_not.1 hk0
      have h0 : (a.p.k != 0) = false := by simpa using hk0
      have hp : peq a.p zP = true := by rw [← KZ, hk0]; rfl
      clear KZ hk0
      obtain ⟨P, hP⟩ : ∃ P, plc a.l x = P := ⟨_, rfl⟩
      by_cases hneg : P < 0
      · rw [hP]
        go_wp2_with (first
          | (refine load_a w.heap.size 0 a u rfl (CA.out w2 G2.out) ?_)
          | (go_at_call 14; (with_reducible refine CKK.mono ?_); rintro e w3 ⟨rfl, g3⟩; have FIN : Hid (w.grownBy w3 none) := grown_tr G0.out (grown_tr G2.out g3); have a3 := (cells_a (CA.out w3 (grown_tr G2.out g3))).2.2.2.1))
        go_ret
        exact ⟨rfl, grown_below FIN.out⟩
      · obtain ⟨s, hs, hx, hi⟩ := plc_neg (by rw [hP]; exact hneg)
        have hsp := RG.sp s (List.mem_of_getElem? hs)
        unfold SpR at hsp
        obtain ⟨_, _, se1, se2, _, _⟩ := hsp
        have SPL : Hid (begE a (plS x key) = 0 → _) := fun he => back_whole RG hp hs hx key he
        have MOV : Hid (begE a (plM x gn) = 0 → _) := fun he => back_move RG hp hs hx gn he
        have n16 := RG.n16
        obtain ⟨ua, un, uc⟩ := u
        have hn : un = a.l.length := RA.out.2.1
        have hl := (List.getElem?_eq_some_iff.1 hs).1
        rw [hi]
        generalize hix : idx a.l x = i at *
        obtain ⟨N, hN⟩ : ∃ N, a.l.length = N := ⟨_, rfl⟩
        rw [hN] at hn hl n16
        subst hn
        have NL : Hid (a.l.length = un) := hN
        have HS : Hid (a.l[i]? = some s) := hs
        have RX : Hid (∀ W, W0.grownBy W none → eS.Rx W (.slice ua un uc) a.l) := fun W g => RA.out.1.grown (grown_tr G0.out g)
        try simp only at CKK CA BS BM
        clear hP hneg hp hN hs hx hi hix RG P
        have hi0 : ¬ ((i : Int) < 0) := by omega
        have hi1 : (i : Int) < (un : Int) := by omega
        have hi2 : (i : Int).toNat = i := by omega
        go_upto_region 6 with (first
          | (refine load_a w.heap.size 0 a _ rfl (CA.out w2 G2.out) ?_)
          | (go_at_call 14; (with_reducible refine CKK.mono ?_); rintro e w3 ⟨rfl, g3⟩; have a3 := (cells_a (CA.out w3 (grown_tr G2.out g3))).2.2.2.1))
        have G3 : Hid (W0.grownBy w3 none) := grown_tr G2.out g3
        obtain ⟨g, o, ea, r1⟩ := range_at (RX.out w3 G3.out) HS.out
        have a2 := (cells_a (CA.out w3 G3.out)).2.2.1
        clear a3 CKK CK G2 g3 h0
        subst ea
        go_upto_region 7 with (first | (refine load_s g (o + i * 5) s rfl r1 ?_))
        have G6 : Hid (W0.grownBy (w3.alloc (.cells (sa s) 29)) none) := grown_alloc G3.out _
        have S6 : Hid (∀ W, (w3.alloc (.cells (sa s) 29)).grownBy W none → Cs W w3.heap.size (sc s)) := fun W g => cs_new g
        have Z6 : Hid (w3.heap.size < (w3.alloc (.cells (sa s) 29)).heap.size ∧ w.heap.size ≤ w3.heap.size) := (⟨by simp, by have h1 := G0.out.size; have h2 := G3.out.size; omega⟩ : _ ∧ _)
        clear r1 a2 G3
        generalize w3.alloc (.cells (sa s) 29) = v6 at *
        generalize w3.heap.size = q10 at *
        go_upto_region 8 with (first
          | (refine load_a w.heap.size 0 a _ rfl (CA.out v6 G6.out) ?_)
          | (go_at_call 17; (with_reducible refine (BS.out _ (grown_tr G0.out G6.out)).mono ?_); rintro e w7 ⟨u7, rfl, r7, g7, b7⟩))
        generalize hM : begM a (plS x key) = B at *
        generalize hE : begE a (plS x key) = E at *
        have G7 : Hid (v6.grownBy (w7.alloc (.cells (aa B u7) 26)) none) := grown_alloc g7 _
        have C7 : Hid (∀ W, (w7.alloc (.cells (aa B u7) 26)).grownBy W none → Cs W w7.heap.size (ac B u7)) := fun W g => cs_new g
        have R7 : Hid (Rat (w7.alloc (.cells (aa B u7) 26)) B u7) := r7.grown (World.grownBy_alloc _ _ none)
        have Z7 : Hid (q10 < w7.heap.size ∧ w7.heap.size < (w7.alloc (.cells (aa B u7) 26)).heap.size) := (⟨by have h1 := Z6.out.1; have h2 := g7.size; omega, by simp⟩ : _ ∧ _)
        clear r7 g7 b7 hM BS
        generalize w7.alloc (.cells (aa B u7) 26) = v7 at *
        generalize w7.heap.size = q11 at *
        go_upto_if 55 with fail
        go_cut [13, 14, 15, 16, 17, 18] from 54 to 155 (fun _ _ _ _ _ _ wx => Hid (v7.grownBy wx none))
        case first =>
          cases he : (E == 0) with
          | false =>
            go_wp2_with fail
            go_meet
            exact grown_refl _ _
          | true =>
            have e0 : E = 0 := by simpa using he
            obtain ⟨rb, pb, hb, rc, lc, ej, DD⟩ := SPL.out e0
            have AB := AV.out B u7 1 v7 rb pb hb R7.out
            have RC : Hid (Rgt (Atl.step B)) := rc
            have LC : Hid ((Atl.step B).l.length = a.l.length + 1) := lc
            generalize Atl.step B = C at *
            clear rb pb hb rc lc SPL e0
            go_upto_region 10 with (first
              | (refine load_a q11 0 B u7 rfl (C7.out v7 (grown_refl _ _)).1 ?_)
              | (go_at_call 19; (with_reducible refine AB.mono ?_); rintro e w8 ⟨u8, rfl, r8, g8, b8⟩))
            have G8 : Hid (v7.grownBy (w8.alloc (.cells (aa C u8) 26)) none) := grown_alloc g8 _
            have X8 : Hid (∀ W, (w8.alloc (.cells (aa C u8) 26)).grownBy W none → W.rangeAt w8.heap.size 0 (ac C u8)) := fun W g => box_a g
            have R8 : Hid (Rat (w8.alloc (.cells (aa C u8) 26)) C u8) := r8.grown (World.grownBy_alloc _ _ none)
            have hv : u8.n = un + 1 := by have h1 := R8.out.2.1; have h2 := LC.out; have h3 := NL.out; omega
            clear r8 g8 b8 AB he
            generalize w8.alloc (.cells (aa C u8) 26) = v8 at *
            generalize w8.heap.size = q13 at *
            have BD := BJ.out C u8 v8 RC.out R8.out
            obtain ⟨va, vn, vc⟩ := u8
            subst hv
            by_cases hm : s.ep ≤ 1099511627773
            · rw [if_pos hm] at ej
              have DH : Hid (_ ∧ _) := DD ej
              rw [ej] at BD
              clear DD ej
              generalize begM C (plJ x) = D at *
              go_upto_region 11 with (first
                | (refine load_a q13 0 C _ rfl (X8.out v8 (grown_refl _ _)) ?_)
                | (go_at_call 17; (with_reducible refine BD.mono ?_); rintro e w9 ⟨u9, rfl, r9, g9, b9⟩))
              have G9 : Hid (v8.grownBy (w9.alloc (.cells (aa D u9) 26)) none) := grown_alloc g9 _
              have X9 : Hid (∀ W, (w9.alloc (.cells (aa D u9) 26)).grownBy W none → W.rangeAt w9.heap.size 0 (ac D u9)) := fun W g => box_a g
              have R9 : Rat (w9.alloc (.cells (aa D u9) 26)) D u9 := r9.grown (World.grownBy_alloc _ _ none)
              clear r9 g9 b9 BD
              generalize w9.alloc (.cells (aa D u9) 26) = v9 at *
              generalize w9.heap.size = q15 at *
              obtain ⟨d1, d2, d3, d4, d5, d6⟩ := DH.out
              have AD := AV.out D u9 1 v9 d1 d2 d3 R9
              have LX : Hid ((Atl.step D).l.length = a.l.length) := d5
              have EX : Hid ((Atl.step D).l[i]? = _) := d6
              generalize Atl.step D = X at *
              have G69 : Hid (v6.grownBy v9 none) := grown_tr G7.out (grown_tr G8.out G9.out)
              have c2 := (cells_a (X8.out v9 G9.out)).2.2.1
              have a2 := (cells_a (CA.out v9 (grown_tr G6.out G69.out))).2.2.1
              simp only at c2 a2
              clear d1 d2 d3 d4 d5 d6 R9 DH
              go_upto_region 14 with fail
              have FI : Hid ((¬ ((i : Int) < 0)) ∧ (i : Int) < (un : Int) ∧ (i : Int).toNat = i ∧ 1 ≤ s.ep ∧ s.ep ≤ 1099511627773) := (⟨by omega, by omega, by omega, by omega, by omega⟩ : _ ∧ _)
              clear c2 a2 hm hi0 hi1 se1 se2
              try clear hi2
              go_upto_region 15 with (first
                | (refine load_a q15 0 D u9 rfl (X9.out v9 (grown_refl _ _)) ?_)
                | (go_at_call 19; (with_reducible refine AD.mono ?_); rintro e w10 ⟨u10, rfl, r10, g10, b10⟩))
              have G10 : Hid (v9.grownBy (w10.alloc (.cells (aa X u10) 26)) none) := grown_alloc g10 _
              have X10 : Hid (∀ W, (w10.alloc (.cells (aa X u10) 26)).grownBy W none → W.rangeAt w10.heap.size 0 (ac X u10)) := fun W g => box_a g
              have R10 : Rat (w10.alloc (.cells (aa X u10) 26)) X u10 := r10.grown (World.grownBy_alloc _ _ none)
              clear r10 g10 b10 AD
              generalize w10.alloc (.cells (aa X u10) 26) = v10 at *
              generalize w10.heap.size = q17 at *
              have hx2 : u10.n = un := by have h1 := R10.2.1; have h2 := LX.out; have h3 := NL.out; omega
              obtain ⟨ya, yn, yc⟩ := u10
              subst hx2
              obtain ⟨g', o', ea, r2⟩ := range_at R10.1 EX.out
              simp only at ea
              subst ea
              obtain ⟨y0, y1, y2, y3, y4⟩ := cells_s r2
              obtain ⟨s0, s1, s2, s3, s4⟩ := cells_s (S6.out v10 (grown_tr G69.out G10.out)).1
              have a2 := (cells_a (CA.out v10 (grown_tr G6.out (grown_tr G69.out G10.out)))).2.2.1
              have x2 := (cells_a (X10.out v10 (grown_refl _ _))).2.2.1
              simp only at y0 y1 y2 y3 y4 a2 x2
              have F7 : Hid (v7.grownBy v10 none) := grown_tr G8.out (grown_tr G9.out G10.out)
              clear r2 R10 X10 X9 X8 G8 G9 G10 G69 RC LC R8 C7 R7 CA S6 MOV AV BJ BM
              obtain ⟨hi0, hi1, hi2, se1, se2⟩ := FI.out
              clear FI
              go_quiet (fail)
              go_wp2_with fail
              go_meet
              exact grown_drewN F7.out _
            · rw [if_neg hm] at ej
              rw [ej] at BD
              generalize begM C (plJ x) = D at *
              clear DD ej
              go_upto_region 11 with (first
                | (refine load_a q13 0 C _ rfl (X8.out v8 (grown_refl _ _)) ?_)
                | (go_at_call 17; (with_reducible refine BD.mono ?_); rintro e w9 ⟨u9, rfl, r9, g9, b9⟩))
              have G9 : Hid (v8.grownBy (w9.alloc (.cells (aa D u9) 26)) none) := grown_alloc g9 _
              clear r9 g9 b9 BD
              generalize w9.alloc (.cells (aa D u9) 26) = v9 at *
              generalize w9.heap.size = q15 at *
              have G69 : Hid (v6.grownBy v9 none) := grown_tr G7.out (grown_tr G8.out G9.out)
              have c2 := (cells_a (X8.out v9 G9.out)).2.2.1
              have a2 := (cells_a (CA.out v9 (grown_tr G6.out G69.out))).2.2.1
              have s3 := (cells_s (S6.out v9 G69.out).1).2.2.2.1
              simp only at c2 a2 s3
              have hlt : ¬ (s.ep < 1099511627773) := by omega
              have F7 : Hid (v7.grownBy v9 none) := grown_tr G8.out G9.out
              go_wp2_with fail
              go_meet
              exact F7.out
        case rest =>
          have GC : Hid (v7.grownBy wc none) := hcut
          have GW : Hid (W0.grownBy wc none) := grown_tr G6.out (grown_tr G7.out GC.out)
          have C11 : Hid (Cs wc q11 (ac B u7)) := C7.out wc GC.out
          have S10 : Hid (Cs wc q10 (sc s)) := S6.out wc (grown_tr G7.out GC.out)
          have ZC : Hid (w.heap.size ≤ q10 ∧ q10 < q11 ∧ q11 < wc.heap.size) := (⟨Z6.out.2, Z7.out.1, by have h1 := Z7.out.2; have h2 := GC.out.size; omega⟩ : _ ∧ _)
          clear SPL BJ C7 S6 G7 GC hcut R7 Z6 Z7 G6
          go_upto_region 18 with (first
            | (refine load_a w.heap.size 0 a _ rfl (CA.out wc GW.out) ?_)
            | (go_at_call 17; (with_reducible refine (BM.out _ (grown_tr G0.out GW.out)).mono ?_); rintro e w12 ⟨u12, rfl, r12, g12, b12⟩; have C12 : Hid (Cs w12 q11 (ac B u7)) := C11.out.grown g12 ZC.out.2.2)
            | (refine store_row (ty := 26) q11 0 (aa (begM a (plM x gn)) u12) rfl rfl (C12.out.there (by simp)) (by kernel_rfl) (by simp [Value.oneCell']) ?_; intro w13 h13; have H13 : Hid (w13 = w12.setCells q11 0 (ac (begM a (plM x gn)) u12)) := h13; clear h13))
          have gs : w12.grownBy w13 (some q11) := by rw [H13.out]; exact grown_setCells q11 _ 0 w12
          have S13 : Hid (Cs w13 q10 (sc s)) := (S10.out.grown g12 (by have h := ZC.out; omega)).kept (F := fun k => k = q11) (Chg.of gs (fun k e => by injection e with e; exact e.symm)) (by show ¬ q10 = q11; have h := ZC.out; omega) (by have h := ZC.out; have h2 := g12.size; omega)
          have C13 : Hid (Cs w13 q11 (ac (begM a (plM x gn)) u12)) := by have := C12.out.sets (ac (begM a (plM x gn)) u12) rfl; rw [← H13.out] at this; exact this
          have B13 : Hid (∀ k, (Value.slice u12.a u12.n u12.c).ownBlock = some k → k ≠ q11) := fun k e => by have h1 := b12 k e; have h2 := ZC.out.2.2; omega
          have R13 : Hid (Rat w13 (begM a (plM x gn)) u12) := r12.kept (Chg.of (F := fun k => k = q11) gs (fun k e => by injection e with e; exact e.symm)) (fun _ k hk => B13.out k hk)
          have Y13 : Hid (w.grownBy w13 none) := grown_more (grown_tr G0.out (grown_tr GW.out g12)) gs (fun k e => .inr (by injection e with e; have h := ZC.out; omega))
          have ZD : Hid (w.heap.size ≤ q10 ∧ q10 < q11 ∧ q11 < w13.heap.size) := (⟨ZC.out.1, ZC.out.2.1, by rw [H13.out, setCells_size]; have h1 := ZC.out.2.2; have h2 := g12.size; omega⟩ : _ ∧ _)
          clear gs r12 g12 b12 C12 H13 C11 S10 ZC GW CA BM RX RA
          generalize begM a (plM x gn) = K1 at *
          generalize begE a (plM x gn) = E3 at *
          by_cases he3 : ¬ E3 = 0
          · have e3 : (E3 != 0) = true := by simpa using he3
            clear MOV
            go_wp2_with fail
            go_ret
            exact ⟨rfl, grown_below Y13.out⟩
          · have he3 : E3 = 0 := Classical.not_not.1 he3
            have e3 : (E3 != 0) = false := by simpa using he3
            obtain ⟨st, r3, z3, l3⟩ := MOV.out he3
            have ST : Hid (∀ n, n < 3 → Rgt (stp K1 n) ∧ peq (stp K1 n).p zP = false ∧ (stp K1 n).p.ph = (n : Int) + 1) := st
            have R3 : Hid (Rgt (stp K1 3) ∧ (stp K1 3).p = zP ∧ (stp K1 3).l[i]? = some ⟨s.fr, s.up, s.sh, s.ep + 1, gn⟩) := (⟨r3, z3, l3⟩ : _ ∧ _)
            have Q10 : q10 < q11 := ZD.out.2.1
            have QW : Hid (w.heap.size ≤ q10) := ZD.out.1
            have I0 : Hid (Cs w13 q11 (ac (stp K1 0) u12) ∧ Rat w13 (stp K1 0) u12 ∧ (∀ k, (Value.slice u12.a u12.n u12.c).ownBlock = some k → k ≠ q11) ∧ w.grownBy w13 none ∧ q11 < w13.heap.size ∧ Cs w13 q10 (sc s)) := (⟨C13.out, R13.out, B13.out, Y13.out, ZD.out.2.2, S13.out⟩ : _ ∧ _)
            clear st r3 z3 l3 MOV C13 R13 B13 Y13 ZD S13 he3
            go_upto_region 21 with fail
            go_loopw [19, 20, 21] (fun n _ _ wr => ∃ (p : Nat) (v : S3), 1 ≤ p ∧ p ≤ 4 ∧ n = .int .i64 (p : Int) ∧ Hid (Cs wr q11 (ac (stp K1 (p - 1)) v) ∧ Rat wr (stp K1 (p - 1)) v ∧ (∀ k, (Value.slice v.a v.n v.c).ownBlock = some k → k ≠ q11) ∧ w.grownBy wr none ∧ q11 < wr.heap.size ∧ Cs wr q10 (sc s))) (fun n _ _ _ => 4 - (intOf n).toNat)
            case atStart => exact ⟨1, u12, by omega, by omega, rfl, I0⟩
            case round =>
              clear I0
              obtain ⟨p, v, hp1, hp4, rfl, I⟩ := hrel
              obtain ⟨k1, k2, k3, k4, k5, k6⟩ := I.out
              have HC : Hid (Cs wr q11 (ac (stp K1 (p - 1)) v)) := k1
              have HG : Hid (w.grownBy wr none) := k4
              have HS : Hid (q11 < wr.heap.size) := k5
              have H10 : Hid (Cs wr q10 (sc s)) := k6
              by_cases hlt : p ≤ 3
              · obtain ⟨m1, m2, m3⟩ := ST.out (p - 1) (by omega)
                have AD := AV.out (stp K1 (p - 1)) v (p : Int) wr m1 m2 (by omega) k2
                have EN : Hid (Atl.step (stp K1 (p - 1)) = stp K1 (p + 1 - 1)) := by
                  have e : p + 1 - 1 = (p - 1) + 1 := by omega
                  show _ = _
                  rw [e]
                  rfl
                rw [EN.out] at AD
                clear I k1 k2 k3 k4 k5 k6 m1 m2 m3 EN R3
                generalize stp K1 (p - 1) = Ko at *
                generalize hN : stp K1 (p + 1 - 1) = Kn at *
                go_upto_region 24 with (first
                  | (refine load_a q11 0 Ko v rfl HC.out.1 ?_)
                  | (go_at_call 19; (with_reducible refine AD.mono ?_); rintro e w7 ⟨u7, rfl, r7, g7, b7⟩))
                have X7 : Hid ((w7.alloc (.cells (aa Kn u7) 26)).rangeAt w7.heap.size 0 (ac Kn u7)) := box_a (grown_refl _ _)
                have C7 : Hid (Cs (w7.alloc (.cells (aa Kn u7) 26)) q11 (ac Ko v)) := HC.out.grown (grown_alloc g7 _) HS.out
                have T7 : Hid (Cs (w7.alloc (.cells (aa Kn u7) 26)) q10 (sc s)) := H10.out.grown (grown_alloc g7 _) (by have h := HS.out; omega)
                have R7 : Hid (Rat (w7.alloc (.cells (aa Kn u7) 26)) Kn u7) := r7.grown (World.grownBy_alloc _ _ none)
                have G7 : Hid (w.grownBy (w7.alloc (.cells (aa Kn u7) 26)) none) := grown_alloc (grown_tr HG.out g7) _
                have S7 : Hid (q11 < (w7.alloc (.cells (aa Kn u7) 26)).heap.size) := by have h1 := HS.out; have h2 := g7.size; show _ < _; simp; omega
                have B7 : Hid (∀ k, (Value.slice u7.a u7.n u7.c).ownBlock = some k → k ≠ q11) := fun k e => by have h1 := b7 k e; have h2 := HS.out; omega
                clear r7 g7 b7 HC
                generalize w7.alloc (.cells (aa Kn u7) 26) = v7' at *
                generalize w7.heap.size = q7 at *
                go_wp2_with (first
                  | (refine load_a q7 0 Kn u7 rfl X7.out ?_)
                  | (refine store_row (ty := 26) q11 0 (aa Kn u7) rfl rfl (C7.out.there (by simp)) (by kernel_rfl) (by simp [Value.oneCell']) ?_; intro w9 h9; have H9 : Hid (w9 = v7'.setCells q11 0 (ac Kn u7)) := h9; clear h9))
                go_roundw
                case rel =>
                  have gs := grown_setCells q11 (ac Kn u7) 0 v7'
                  refine ⟨p + 1, u7, by omega, by omega, by go_num, ?_⟩
                  rw [hN]
                  show Cs w9 q11 (ac Kn u7) ∧ Rat w9 Kn u7 ∧ (∀ k, (Value.slice u7.a u7.n u7.c).ownBlock = some k → k ≠ q11) ∧ w.grownBy w9 none ∧ q11 < w9.heap.size ∧ Cs w9 q10 (sc s)
                  refine ⟨?_, ?_, B7.out, ?_, ?_, ?_⟩
                  · rw [H9.out]; exact C7.out.sets _ rfl
                  · rw [H9.out]; exact R7.out.kept (Chg.of (F := fun k => k = q11) gs (fun k e => by injection e with e; exact e.symm)) (fun _ k hk => B7.out k hk)
                  · rw [H9.out]; exact grown_more G7.out gs (fun k e => .inr (by injection e with e; have := QW.out; omega))
                  · rw [H9.out, setCells_size]; exact S7.out
                  · rw [H9.out]; exact T7.out.kept (F := fun k => k = q11) (Chg.of gs (fun k e => by injection e with e; exact e.symm)) (by show ¬ q10 = q11; omega) (by have h := S7.out; omega)
                case measure => simp [intOf]; omega
              · have e4 : p = 4 := by omega
                subst e4
                obtain ⟨m1, m2, m3⟩ := R3.out
                change Cs wr q11 (ac (stp K1 3) v) at k1
                change Rat wr (stp K1 3) v at k2
                generalize stp K1 3 = X at *
                obtain ⟨ya, yn, yc⟩ := v
                obtain ⟨g', o', ea, r2⟩ := range_at k2.1 m3
                have hyn : i < yn := by have h1 := k2.2.1; have h2 := (List.getElem?_eq_some_iff.1 m3).1; simp only at h1; omega
                have hy1 : (i : Int) < (yn : Int) := by omega
                simp only at ea
                subst ea
                have x2 := (cells_a k1.1).2.2.1
                have KC : Hid (Cs wr q11 (ac X ⟨some ⟨g', o', none⟩, yn, yc⟩)) := k1
                simp only at x2
                clear m1 m3 I k1 k2 k3 ST R3 AV HC k5
                go_upto_region 28 with (first | (refine load_s g' (o' + i * 5) ⟨s.fr, s.up, s.sh, s.ep + 1, gn⟩ rfl r2 ?_))
                obtain ⟨s0, s1, s2, s3, s4⟩ := cells_s (k6.grown (World.grownBy_alloc _ (.cells (sa ⟨s.fr, s.up, s.sh, s.ep + 1, gn⟩) 29) none) (by have h := HS.out; omega)).1
                obtain ⟨_, t0, t1, t2, t3, t4⟩ := box_s (w := wr) (s := ⟨s.fr, s.up, s.sh, s.ep + 1, gn⟩) (t := 29) (grown_refl _ _)
                have x3 := (cells_a (KC.out.grown (World.grownBy_alloc wr (.cells (sa ⟨s.fr, s.up, s.sh, s.ep + 1, gn⟩) 29) none) HS.out).1).2.2.2.1
                rw [m2] at x3
                change World.cell? _ _ = some (.int .i64 0) at x3
                have FIN : Hid (w.grownBy (wr.alloc (.cells (sa ⟨s.fr, s.up, s.sh, s.ep + 1, gn⟩) 29)) none) := grown_alloc HG.out _
                change World.cell? _ _ = some (.string s.fr) at t0
                change World.cell? _ _ = some (.string s.up) at t1
                change World.cell? _ _ = some (.int .i64 (s.ep + 1)) at t3
                change World.cell? _ _ = some (.int .i64 gn) at t4
                simp only [Nat.zero_add] at s1 s3
                clear KC HS H10 HG k6 s2 s4 t2 x2 hi0 hi1 hi2 hy1 hyn
                generalize wr.alloc (.cells (sa ⟨s.fr, s.up, s.sh, s.ep + 1, gn⟩) 29) = vz at *
                generalize wr.heap.size = qz at *
                go_wp2_with fail
                go_ret
                exact ⟨by first | rfl | exact ret_bool (by simp) | simp, grown_below FIN.out⟩
end atlasBack
end Go.Proofs.Ytkidhnlombhhnaa
