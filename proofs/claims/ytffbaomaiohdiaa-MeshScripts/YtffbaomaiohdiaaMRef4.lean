/- The reference's mesh: Join, out. -/
import Derived.Test.YtffbaomaiohdiaaMRef3
namespace Go.Proofs.Ytffbaomaiohdiaa
open Go.RowKit Msh
set_option linter.unusedVariables false
set_option maxRecDepth 10000

theorem join_take {cs : List (Int × Int)} {a b : Int} {k : Nat} {p : Int × Int} (h : cs[k]? = some p) : joinL (cs.take (k + 1)) a b = joinL (cs.take k) a b ++ (if same p a b = true then [] else [p]) := by
  unfold joinL
  rw [List.take_add_one, h, List.filter_append]
  congr 1
  cases hs : same p a b <;> simp [List.filter, hs]
/-- A whole pair is loaded. -/
theorem load_pr {ops : Array Oper} {rest : List Oper} {d : Option Tmp} {ty' : TypeId} {x : Operand} {ps : String} {af : Array Edge} {a : Act} {w : World} {Q : Exit → Act → World → Prop}
    (q o : Nat) (p : Int × Int) (hx : a.eval x = .pointer (some ⟨q, o, none⟩)) (hr : w.rangeAt q o (eC.enc p))
    (h : wpList Try.prog ops Q rest (a.put d (.agg #[.int .i64 p.1, .int .i64 p.2])) w) : wpList Try.prog ops Q (⟨d, .load 65 x, ty', ps, af, none⟩ :: rest) a w :=
  wpList_load_mid rfl 65 x rfl q o hx (eC.enc p) _ hr Try.underlying65 rfl (by kernel_rfl) h
set_option maxRecDepth 100000 in
set_option maxHeartbeats 1600000 in
theorem rjoin_any (q : Nat) (s : Ms) (F : Nat → Prop) (x y : Int) (w : World) (h : Rm w q s F) (hl : s.cs.length ≤ 1000000) :
    Calls Try.prog 22 #[.pointer (some ⟨q, 0, none⟩), .int .i64 x, .int .i64 y] w fun e w' => e = .returned (.tuple #[]) ∧ RLeft w w' q ⟨s.l, s.n, joinL s.cs x y⟩ F := by
  obtain ⟨vl, vc, h1, h2⟩ := h
  have SM := fun p W => same_any p x y W
  obtain ⟨ad, cp, hv⟩ := h1.cuts.rx.form
  subst hv
  obtain ⟨N, hN⟩ : ∃ N, s.cs.length = N := ⟨_, rfl⟩
  have NL : Hid (s.cs.length = N) := hN
  rw [hN] at h1 h2 hl
  have H1 : Hid (RmD w q vl (.slice ad N cp) s) := h1
  have hql := h1.lt.1
  clear h1 hN
  have HC : Hid (∀ W, w.grownBy W none → W.cell? ⟨q, 2, none⟩ = some (.slice ad N cp)) := fun W g => g.cell H1.out.c2 (by simp)
  have c2 := HC.out w (grown_refl _ _)
  go_enter Try.func22, Try.ntmps22
  go_wp2_with fail
  go_loopw [6, 7] (fun x6 i wr => ∃ (j : Nat) (a6 : Option Addr) (n6 c6 : Nat), j ≤ N ∧ i = .int .i64 (j : Int) ∧ x6 = .slice a6 n6 c6 ∧ Hid (eC.Own wr w.heap.size (.slice a6 n6 c6) (joinL (s.cs.take j) x y)) ∧ Hid (w.grownBy wr none)) (fun _ i _ => N - (intOf i).toNat)
  case atStart => exact ⟨0, none, 0, 0, by omega, rfl, rfl, Elm.nil _ _, grown_refl _ _⟩
  case round =>
    obtain ⟨j, a6, n6, c6, hj, rfl, rfl, O6, G⟩ := hrel
    have c2' := HC.out wr G.out
    by_cases hlt : j < N
    · obtain ⟨p, hp⟩ : ∃ p, s.cs[j]? = some p := ⟨_, List.getElem?_eq_getElem (by rw [NL.out]; exact hlt)⟩
      obtain ⟨g, c, hv, hc, _⟩ := (H1.out.grown G.out).cuts.at_ hp
      have RGp : Hid (∀ W, w.grownBy W none → W.rangeAt g (j * 2) (eC.enc p)) := fun W gW => by
        obtain ⟨g', c', hv', hc', _⟩ := (H1.out.grown gW).cuts.at_ hp
        rw [hv] at hv'
        injection hv' with f1 f2 f3
        injection f1 with f1
        injection f1 with f1
        subst f1
        exact hc'
      injection hv with e1 e2 e3
      subst e1
      have RG := RGp.out wr G.out
      have JT := join_take (a := x) (b := y) hp
      have SMp := SM p
      cases hs : same p x y with
      | true =>
        rw [hs] at SMp JT
        simp only [if_true, List.append_nil] at JT
        have HJ : Hid (joinL (s.cs.take (j + 1)) x y = joinL (s.cs.take j) x y) := JT
        clear JT hp hc e2 e3 hs
        go_wp2_with (first
          | (refine load_pr g (j * 2) p rfl RG ?_)
          | (go_at_call 33; (with_reducible refine (SMp _).mono ?_); rintro e w2 ⟨rfl, hg2⟩))
        go_roundw
        case rel => exact ⟨j + 1, a6, n6, c6, by omega, by go_num, rfl, (by rw [HJ.out]; exact O6.out.grown hg2 : eC.Own w2 w.heap.size (.slice a6 n6 c6) (joinL (s.cs.take (j + 1)) x y)), grown_tr G.out hg2⟩
        case measure => simp [intOf]; omega
      | false =>
        rw [hs] at SMp JT
        simp only [Bool.false_eq_true, if_false] at JT
        have HJ : Hid (joinL (s.cs.take (j + 1)) x y = joinL (s.cs.take j) x y ++ [p]) := JT
        have LE : Hid ((joinL (s.cs.take j) x y).length ≤ 1000000) := Nat.le_trans (Nat.le_trans (join_len _ _ _) (by rw [List.length_take]; exact Nat.min_le_left _ _)) (by omega)
        have B2 : Hid (∀ w2, wr.grownBy w2 none → w2.cell? ⟨q, 2, none⟩ = some (.slice (some ⟨g, 0, none⟩) N cp) ∧ q < w2.heap.size ∧ w2.rangeAt g (j * 2) (eC.enc p) ∧ w.heap.size ≤ w2.heap.size ∧ (∀ o, eC.Own (w2.alloc o) w.heap.size (.slice a6 n6 c6) (joinL (s.cs.take j) x y)) ∧ eC.Rx (w2.alloc (.cells #[.int .i64 p.1, .int .i64 p.2] 65)) (.slice (some ⟨w2.heap.size, 0, none⟩) 1 1) [p]) := fun w2 g2 => by
          have g3 := grown_tr G.out g2
          refine ⟨HC.out w2 g3, (H1.out.grown g3).lt.1, RGp.out w2 g3, g3.size, fun o => O6.out.grown (grown_alloc g2 o), Elm.rx_one (E := eC) fun j u hu => new_at w2 rfl ?_⟩
          rw [← hu]
          simp [eC]
        clear JT hp hc e2 e3 hs
        go_wp2_with (first
          | (refine load_pr g (j * 2) p rfl RG ?_)
          | (refine load_pr g (j * 2) p rfl RG2.out ?_)
          | (go_at_call 33; (with_reducible refine (SMp _).mono ?_); rintro e w2 ⟨rfl, hg2⟩; obtain ⟨cc2, hq2, RG2', hsz2, OW', RX'⟩ := B2.out w2 hg2; have RG2 : Hid (w2.rangeAt g (j * 2) (eC.enc p)) := RG2'; have OW : Hid (∀ o, eC.Own (w2.alloc o) w.heap.size (.slice a6 n6 c6) (joinL (s.cs.take j) x y)) := OW'; have RX : Hid (eC.Rx (w2.alloc (.cells #[.int .i64 p.1, .int .i64 p.2] 65)) (.slice (some ⟨w2.heap.size, 0, none⟩) 1 1) [p]) := RX'; clear RG2' OW' RX' RG)
          | (refine Elm.wpList_append (E := eC) rfl (.tmp 28) (.tmp 36) rfl w.heap.size (.slice a6 n6 c6) (joinL (s.cs.take j) x y) rfl (OW.out _) _ [p] rfl RX.out (by have := LE.out; simp; omega) (by have := LE.out; simp [eC]; omega) (by simp; omega) ?_; intro a3 n3 c3 w3 hO3 hg3 hl3))
        go_roundw
        case rel =>
          have g4 : w.grownBy w3 none := grown_more (grown_alloc (grown_tr G.out hg2) _) hg3 fun k e => .inr (O6.out.lt k e).1
          exact ⟨j + 1, a3, n3, c3, by omega, by go_num, rfl, (by rw [HJ.out]; exact hO3 : eC.Own w3 w.heap.size (.slice a3 n3 c3) (joinL (s.cs.take (j + 1)) x y)), g4⟩
        case measure => simp [intOf]; omega
    · have HO : Hid (eC.Own wr w.heap.size (.slice a6 n6 c6) (joinL s.cs x y)) := by
        have := O6.out
        rw [List.take_of_length_le (by rw [NL.out]; omega)] at this
        exact this
      have M := H1.out.grown G.out
      have fr2 := M.fr 2
      have HM : Hid (RmD wr q vl (.slice ad N cp) s) := M
      clear M
      go_wp2_with fail
      go_end0
      refine ⟨rfl, ?_⟩
      have G4 : wr.grownBy (wr.setCell ⟨q, 2, none⟩ (.slice a6 n6 c6)) (some q) := grown_set _ _ _
      have hq := HM.out.lt.1
      have C4 : Chg (fun k => k = q ∨ (Value.slice ad N cp).ownBlock = some k) w (wr.setCell ⟨q, 2, none⟩ (.slice a6 n6 c6)) := (Chg.of G.out (by simp)).grown G4 fun k e => .inl (.inl (by injection e with e; exact e.symm))
      refine H1.out.cutsTurn h2 C4 (by rw [set_other (by simp)]; exact HM.out.c0) (by rw [set_other (by simp)]; exact HM.out.c1) (set_same c2') (fun i => by rw [World.frozen?_setCell]; exact HM.out.fr i) ((HO.out.low (Nat.zero_le _)).but G4 fun k hk e => ?_) (fun k hk => .inr (HO.out.lt k hk).1)
      injection e with e
      subst e
      have := (HO.out.lt q hk).1
      omega
set_option maxRecDepth 100000 in
set_option maxHeartbeats 1600000 in
theorem rout_any (q : Nat) (s : Ms) (F : Nat → Prop) (i : Nat) (p : Pk) (w : World) (h : Rm w q s F) (hi : s.l[i]? = some p) :
    Calls Try.prog 31 #[.pointer (some ⟨q, 0, none⟩), .int .i64 (i : Int)] w fun e w' => e = .returned (pv p) ∧ RLeft w w' q (outS s i) F := by
  obtain ⟨vl, vc, h1, h2⟩ := h
  have hil := (List.getElem?_eq_some_iff.1 hi).1
  have hl := h1.ok.len
  have hlt := h1.lt
  obtain ⟨g, o, c, hv, hr⟩ := range_pk h1.row.rx hi
  have c0 := h1.c0
  have hqn : q ≠ w.heap.size := by omega
  have hqn1 : q ≠ w.heap.size + 1 := by omega
  have hqn2 : q ≠ w.heap.size + 2 := by omega
  have hql := hlt.1
  have RW : ∀ o1, (w.alloc o1).rangeAt g (o + i * 4) (eP.enc p) := fun o1 => range_kept hr (World.grownBy_alloc w o1 none) (by simp)
  -- the two cuts of the list
  obtain ⟨ad2, cp2, S2, X2⟩ := Elm.from_ h1.row (k := i + 1) (by omega)
  obtain ⟨ad1, cp1, S1', O1, B1⟩ := Elm.upto h1.row (k := i) (by omega)
  have ht : Try.prog.underlying 27 = some (.slice (Try.prog.elem 27)) := by rw [show Try.prog.elem 27 = 37 from eP.he]; exact eP.hu
  have S1 : ∀ W, (Instr.slice 27 vl none (some (.int .i64 (i : Int))) none).run Try.prog W = .ok (.slice ad1 i cp1) W := fun W => by
    have h5 : (Instr.sliceAt 27 vl none (some (.int .i64 (i : Int))) none).run Try.prog W = .ok (.slice ad1 i cp1) W := S1' W
    rw [run_sliceAt_slice W _ _ _ _ _ ht] at h5
    exact h5
  have S2' : ∀ W, (Instr.slice 27 vl (some (.int .i64 ((i : Int) + 1))) none none).run Try.prog W = .ok (.slice ad2 (s.l.length - (i + 1)) cp2) W := fun W => S2 W
  have H1 : Hid (RmD w q vl vc s) := h1
  have HB1 : Hid ((Value.slice ad1 i cp1).ownBlock = vl.ownBlock) := B1
  have HO1 : Hid (∀ W, w.grownBy W none → eP.Own W 0 (.slice ad1 i cp1) (s.l.take i)) := fun W g => O1.grown g
  have HX2 : Hid (∀ W, w.grownBy W none → eP.Rx W (.slice ad2 (s.l.length - (i + 1)) cp2) (s.l.drop (i + 1))) := fun W g => X2.grown g
  have hil2 : i < s.l.length := hil
  clear S1' S2 X2 O1 B1 hr ht
  subst hv
  generalize hn : s.l.length = n at *
  have LE : Hid (s.l.length ≤ 512) := by show _ ≤ _; rw [hn]; exact hl
  generalize hm : n - (i + 1) = m at *
  clear hn hm hi hil hlt
  have AL : Hid (∀ a : Value, a = a → True) := fun _ _ => trivial
  go_enter Try.func31, Try.ntmps31
  go_upto_region 2 with (refine load_pk g (o + i * 4) p rfl (RW _) ?_)
  generalize hw2 : (w.alloc (.cells #[.int .i64 0, .int .i64 0, .int .i64 0, .string ⟨#[]⟩] 37)).alloc (.cells #[.int .i64 p.id, .int .i64 p.fm, .int .i64 p.tt, .string p.body] 37) = w2
  have G2 : w.grownBy w2 none := by rw [← hw2]; exact grown_alloc (World.grownBy_alloc w _ none) _
  have hs2 : w2.heap.size = w.heap.size + 2 := by rw [← hw2]; simp
  have T4 : w2.there w.heap.size 0 4 := by rw [← hw2]; exact there_kept (there_new w _ _ rfl rfl) (World.grownBy_alloc _ _ none) (by simp) (by omega)
  have R5 : w2.rangeAt (w.heap.size + 1) 0 (eP.enc p) := by rw [← hw2]; exact range_new _ p _ (by simp)
  clear hw2
  have x0 : w2.cell? ⟨q, 0, none⟩ = some (.slice (some ⟨g, o, none⟩) n c) := G2.cell c0 (by simp)
  have hq2 : q < w2.heap.size := by omega
  have hq2n : q ≠ w2.heap.size := by omega
  have G2' : ∀ o2, w.grownBy (w2.alloc o2) none := fun o2 => grown_alloc G2 o2
  have hM : Hid (eP.Own (w2.alloc (.cells #[] 37)) w2.heap.size (.slice (some ⟨w2.heap.size, 0, none⟩) 0 0) []) := Elm.made (E := eP) w2 #[] 0 _ rfl (by unfold maxLen; omega) rfl
  have HX3 : Hid (eP.Rx (w2.alloc (.cells #[] 37)) (.slice ad2 m cp2) (s.l.drop (i + 1))) := HX2.out _ (G2' _)
  obtain ⟨Z, hZ⟩ : ∃ Z, w.heap.size = Z := ⟨_, rfl⟩
  have HZ : Hid (w2.heap.size = Z + 2) := by show _ = _; rw [hs2, hZ]
  rw [hZ] at T4 R5 ⊢
  have HT4 : Hid (w2.there Z 0 4) := T4
  have HR5 : Hid (w2.rangeAt (Z + 1) 0 (eP.enc p)) := R5
  have HZw : Hid (w.heap.size = Z) := hZ
  -- behind the first append
  have B5 : Hid (∀ w5, (w2.alloc (.cells #[] 37)).grownBy w5 (some w2.heap.size) → w2.grownBy w5 none ∧ w5.cell? ⟨q, 0, none⟩ = some (.slice (some ⟨g, o, none⟩) n c) ∧ eP.Own w5 0 (.slice ad1 i cp1) (s.l.take i)) := fun w5 g5 => by
    have gg : w2.grownBy w5 none := grown_more (World.grownBy_alloc w2 _ none) g5 fun k e => .inr (by injection e with e; omega)
    exact ⟨gg, gg.cell x0 (by simp), HO1.out w5 (grown_tr G2 gg)⟩
  -- behind the second
  have B6 : Hid (∀ w5 w6, w2.grownBy w5 none → w5.grownBy w6 (Value.slice (some ⟨g, o, none⟩) n c).ownBlock → w6.cell? ⟨q, 0, none⟩ = some (.slice (some ⟨g, o, none⟩) n c) ∧ w6.frozen? ⟨q, 0, none⟩ = false ∧ (∀ u, (w6.setCell ⟨q, 0, none⟩ u).rangeAt (Z + 1) 0 (eP.enc p)) ∧ (∀ u, (w6.setCell ⟨q, 0, none⟩ u).there Z 0 4) ∧
      ∀ (a6 : Option Addr) (n6 c6 : Nat) (w7 : World), eP.Own w6 0 (.slice a6 n6 c6) (s.l.take i ++ s.l.drop (i + 1)) → ((Value.slice a6 n6 c6).ownBlock = (Value.slice (some ⟨g, o, none⟩) n c).ownBlock ∨ (Value.slice a6 n6 c6).ownBlock = some w5.heap.size) → (w6.setCell ⟨q, 0, none⟩ (.slice a6 n6 c6)).grownBy w7 (some Z) → RLeft w w7 q (outS s i) F) := fun w5 w6 g5 g6 => by
    have M := H1.out.grown (grown_tr G2 g5)
    have nb : some q ≠ (Value.slice (some ⟨g, o, none⟩) n c).ownBlock := fun e => H1.out.lq q e.symm rfl
    have hgl : g < w.heap.size := H1.out.lt.2.1 g rfl
    have F6 : ∀ i, w6.frozen? ⟨q, i, none⟩ = false := fun i => (World.frozen?_of_block (a := ⟨q, i, none⟩) (g6.block q M.lt.1 nb)).trans (M.fr i)
    have k0 := g6.cell M.c0 nb
    have hzz := HZ.out
    have hzw := HZw.out
    refine ⟨k0, F6 0, fun u => ?_, fun u => ?_, fun a6 n6 c6 w7 hO hl6 g7 => ?_⟩
    · refine range_kept (range_kept (range_kept HR5.out g5 (by simp)) g6 (fun e => ?_)) (grown_set _ _ _) (fun e => ?_)
      · injection e with e; simp at e; omega
      · injection e with e; simp at e; omega
    · refine there_kept (there_kept (there_kept HT4.out g5 (by simp) (by omega)) g6 (fun e => ?_) (by omega)) (grown_set _ _ _) (fun e => ?_) (by omega)
      · injection e with e; simp at e; omega
      · injection e with e; simp at e; omega
    · have G7 : w6.grownBy (w6.setCell ⟨q, 0, none⟩ (.slice a6 n6 c6)) (some q) := grown_set _ _ _
      have hs5 := (grown_tr G2 g5).size
      have nv : ∀ k, (Value.slice a6 n6 c6).ownBlock = some k → (Value.slice (some ⟨g, o, none⟩) n c).ownBlock = some k ∨ Z + 2 ≤ k := fun k hk => by
        rcases hl6 with e | e
        · exact .inl (by rw [← e]; exact hk)
        · rw [hk] at e; injection e with e
          have := g5.size
          exact .inr (by omega)
      have C6 : Chg (fun k => k = q ∨ (Value.slice (some ⟨g, o, none⟩) n c).ownBlock = some k) w w6 := (Chg.of (grown_tr G2 g5) (by simp)).grown g6 fun k e => .inl (.inr e)
      have C7 := (C6.grown G7 fun k e => .inl (.inl (by injection e with e; exact e.symm))).grown g7 fun k e => .inr (by injection e with e; omega)
      have K7 : ∀ i v, (w6.setCell ⟨q, 0, none⟩ (.slice a6 n6 c6)).cell? ⟨q, i, none⟩ = some v → w7.cell? ⟨q, i, none⟩ = some v := fun i v h => g7.cell h (fun e => by injection e with e; simp at e; omega)
      rw [← List.eraseIdx_eq_take_drop_succ] at hO
      refine H1.out.turn (l := s.l.eraseIdx i) (n := s.n) h2 C7 (K7 _ _ (set_same k0)) (K7 _ _ (by rw [set_other (by simp)]; exact g6.cell M.c1 nb)) (K7 _ _ (by rw [set_other (by simp)]; exact g6.cell M.c2 nb)) (fun i => ?_) ((hO.but G7 fun k hk e => ?_).but g7 fun k hk e => ?_) (fun k hk => (nv k hk).imp id (fun e => by omega)) (ok_out H1.out.ok i)
      · rw [World.frozen?_of_block (a := ⟨q, i, none⟩) (g7.block q (by rw [size_set]; have := g6.size; have := M.lt.1; omega) (fun e => by injection e with e; omega)), World.frozen?_setCell]
        exact F6 i
      · injection e with e
        subst e
        rcases nv q hk with e | e
        · exact nb e.symm
        · omega
      · injection e with e
        subst e
        rcases nv Z hk with e | e
        · injection e with e; simp at e; omega
        · omega
  clear T4 R5 hs2 hZ G2' RW c0
  go_wp2_with (first
    | (refine load_pk (Z + 1) 0 p rfl (R7 _) ?_)
    | (refine store_pk Z p rfl rfl (T7 _) ?_; intro w7 hR7 hT7 hg7)
    | (refine Elm.wpList_append (E := eP) rfl (.tmp 14) (.tmp 21) rfl w2.heap.size (.slice (some ⟨w2.heap.size, 0, none⟩) 0 0) [] rfl hM.out _ (s.l.drop (i + 1)) rfl HX3.out (by have := LE.out; simp; omega) (by have := LE.out; simp [eP]; omega) (by simp) ?_; intro a5 n5 c5 w5 hO5 hg5 hl5; obtain ⟨gg5, cc5, OO5⟩ := B5.out w5 hg5; have HOO5 : Hid (eP.Own w5 0 (.slice ad1 i cp1) (s.l.take i)) := OO5; have HX5 : Hid (eP.Rx w5 (.slice a5 n5 c5) (s.l.drop (i + 1))) := hO5.rx; clear OO5 hO5 hl5)
    | (refine Elm.wpList_append (E := eP) rfl (.tmp 29) (.tmp 30) rfl 0 (.slice ad1 i cp1) (s.l.take i) rfl HOO5.out _ (s.l.drop (i + 1)) rfl HX5.out (by have := LE.out; simp; omega) (by have := LE.out; simp [eP]; omega) (Nat.zero_le _) ?_; intro a6 n6 c6 w6 hO6 hg6 hl6; rw [HB1.out] at hg6 hl6; obtain ⟨k60, f60, R7, T7, FIN⟩ := B6.out w5 w6 gg5 hg6))
  refine bodyPost_ret (v := pv p) (res_pk1 rfl rfl hR7) rfl ⟨rfl, ?_⟩
  exact FIN _ _ _ _ hO6 hl6 hg7
end Go.Proofs.Ytffbaomaiohdiaa
