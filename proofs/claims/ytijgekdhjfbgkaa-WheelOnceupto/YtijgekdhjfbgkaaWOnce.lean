/- What is put in comes out just once: the statement's walk. -/
import Derived.Test.YtijgekdhjfbgkaaWStepM
import Derived.Deep.CutBlock
import Derived.BigQuiet
namespace Go.Proofs.Ytijgekdhjfbgkaa
open Go.RowKit Go.Sort Whl
set_option linter.unusedVariables false
namespace Whl
theorem srt_next {L : List It} (h : Srt L) {k : Nat} {p a : It} (h1 : L[k]? = some p) (h2 : L[k + 1]? = some a) : bef p a = true := by
  obtain ⟨l1, rfl⟩ := List.getElem?_eq_some_iff.1 h1
  obtain ⟨l2, rfl⟩ := List.getElem?_eq_some_iff.1 h2
  exact List.pairwise_iff_getElem.1 h k (k + 1) l1 l2 (by omega)
theorem due_parts (s : Int) (L : List It) : (dueL s L).length + (restL s L).length = L.length := by
  have := len_parts (fun a => decide (a.2 ≤ s)) L
  unfold dueL restL
  rw [show (fun a : It => decide (s < a.2)) = fun a => !decide (a.2 ≤ s) by funext a; rw [Bool.eq_iff_iff]; simp]
  exact this
theorem cut_len {x : Int} : ∀ {L : List It}, Srt L → Uni L → (dropL x L).length + (if (L.any fun a => a.1 == x) = true then 1 else 0) = L.length
  | [], _, _ => rfl
  | b :: L, h, u => by
    obtain ⟨p1, p2⟩ := List.pairwise_cons.1 h
    have u2 : Uni L := fun a ha c hc e => u a (by simp [ha]) c (by simp [hc]) e
    have ih := cut_len (x := x) p2 u2
    unfold dropL at ih ⊢
    by_cases hb : b.1 = x
    · have hn : (L.any fun a => a.1 == x) = false := by
        rw [List.any_eq_false]
        intro a ha e
        have e : a.1 = x := by simpa using e
        have := u a (by simp [ha]) b (by simp) (by rw [e, hb])
        subst this
        have := p1 a ha
        rw [bef_irr] at this
        cases this
      rw [hn] at ih
      simp [hb] at ih ⊢
      exact ih
    · have hb' : (b.1 == x) = false := by simpa using hb
      have hc : (b.1 != x) = true := by simpa using hb
      rw [List.filter_cons_of_pos (p := fun a : It => a.1 != x) hc, List.any_cons, hb', Bool.false_or, List.length_cons, List.length_cons]
      omega
end Whl

set_option maxRecDepth 100000 in
set_option maxHeartbeats 1600000 in
theorem once_bad (now : Int) (va vb vc : Value) (h : now < 0 ∨ 226157759 < now) (w : World) :
    Calls Try.prog 4 #[.int .i64 now, va, vb, vc] w fun e w' => e = .returned (.bool true) ∧ Below w.heap.size w w' := by
  have hnot : ∀ (x : Bool) (w : World), (Op.unary .not (.bool x)).run Try.prog w = .ok (.bool (!x)) w := fun _ _ => rfl
  have AW := awake_any
  have NB := fun w => new_bad now h w
  clear h
  go_enter Try.func4, Try.ntmps4
  go_wp2_with (first
    | (go_at_call 8; (with_reducible refine (AW _).mono ?_); rintro e w1 ⟨rfl, H1⟩)
    | (go_at_call 9; (with_reducible refine (NB _).mono ?_); rintro e w2 ⟨rfl, e2⟩; have e2' := e2.symm; clear e2; subst e2'))
  go_ret
  exact ⟨rfl, grown_below H1⟩

set_option maxRecDepth 100000 in
set_option maxHeartbeats 12800000 in
theorem once_ok (now : Int) (ad : Option Addr) (cp : Nat) (l : List It) (add : Option Addr) (cpd : Nat) (ds : List Int) (adt : Option Addr) (cpt : Nat) (ts : List Int) (n0 : 0 ≤ now) (n1 : now ≤ 226157759) (w : World) (hr : Ra w (.slice ad l.length cp) l) (hrd : Rn w (.slice add ds.length cpd) 44 ds) (hrt : Rn w (.slice adt ts.length cpt) 45 ts) :
    Calls Try.prog 4 #[.int .i64 now, .slice ad l.length cp, .slice add ds.length cpd, .slice adt ts.length cpt] w fun e w' => e = .returned (.bool true) ∧ Below w.heap.size w w' := by
  have hnot : ∀ (x : Bool) (w : World), (Op.unary .not (.bool x)).run Try.prog w = .ok (.bool (!x)) w := fun _ _ => rfl
  have AW := awake_any
  have NO := fun w => new_ok now n0 n1 w
  have hl := hr.2.2
  have hdl := hrd.2.2
  have htl := hrt.2.2
  have HR : Hid (Ra w (.slice ad l.length cp) l) := hr
  have HX : Hid (Rn w (.slice add ds.length cpd) 44 ds) := hrd
  have HT : Hid (Rn w (.slice adt ts.length cpt) 45 ts) := hrt
  clear hr hrd hrt
  go_enter Try.func4, Try.ntmps4
  go_upto_block 0 with (first
    | (go_at_call 8; (with_reducible refine (AW _).mono ?_); rintro e w1 ⟨rfl, K1⟩)
    | (go_at_call 9; (with_reducible refine (NO w1).mono ?_); rintro e w2 ⟨b, F1, rfl, h2, f2, H2⟩))
  have KB : Below w.heap.size w w2 := grown_below (grown_more K1 H2 (by simp))
  have hF : ∀ k, F1 k → w.heap.size ≤ k := fun k hk => by have := f2 k hk; have := K1.size; omega
  clear f2 H2 NO AW
  go_cut [11, 12] from 38 to 61 (fun s i wx => ∃ F ad1 c1 L, s = .slice ad1 L.length c1 ∧ Wh wx b now L F ∧ (∀ k, F k → w.heap.size ≤ k) ∧ Below w.heap.size w wx)
  case first =>
    go_wp2_with fail
    go_loopw [11, 12] (fun s i wr => ∃ (j : Nat) (F : Nat → Prop) (ad1 : Option Addr) (m1 c1 : Nat) (K : List It), j ≤ l.length ∧ j ≤ 400 ∧ i = .int .i64 j ∧ s = .slice ad1 m1 c1 ∧ Wh wr b now (insN now l j) F ∧ (∀ k, F k → w.heap.size ≤ k) ∧ Below w.heap.size w wr ∧ wr.ownsRow w.heap.size 33 2 (.slice ad1 m1 c1) K.length (cells K) ∧ (∀ k, (Value.slice ad1 m1 c1).ownBlock = some k → ¬ F k) ∧ K.length = (insN now l j).length) (fun _ i _ => (500 - intOf i).toNat)
    case atStart => exact ⟨0, F1, none, 0, 0, [], by omega, by omega, rfl, rfl, h2, hF, KB, World.ownsRow_nil _ _ _ _, (fun k hk => by cases hk), rfl⟩
    case round =>
      obtain ⟨j, F, ad1, m1, c1, K, hj1, hj2, rfl, rfl, hW, hF, KB, O1, r1, hK⟩ := hrel
      have hlen := hW.ok.len
      have hBs := KB.size
      by_cases hgo : j < l.length ∧ j < 400
      · obtain ⟨hlt, h4⟩ := hgo
        obtain ⟨a, haj⟩ : ∃ a, l[j]? = some a := ⟨l[j], List.getElem?_eq_getElem hlt⟩
        have hid := (HR.out.2.1 a (List.mem_of_getElem? haj)).1
        obtain ⟨g, o, hix, cx0, cy0⟩ := HR.out.1.idx haj
        have hg : g < w.heap.size := World.block_lt_of_cell? w _ cx0
        have cx := (KB.cell (p := ⟨g, o, none⟩) hg).trans cx0
        have cy := (KB.cell (p := ⟨g, o + 1, none⟩) hg).trans cy0
        have gF : ¬ F g := fun c => by have := hF g c; omega
        have HN : Hid (insN now l (j + 1) = insL now (insN now l j) a) := insN_next haj
        have IN := insert_any b now (insN now l j) F a hid wr hW
        have e1 : insE now (insN now l j) a = 0 → (insL now (insN now l j) a).length = (insN now l j).length + 1 := fun h => by unfold insL; rw [if_pos h, len_ins]
        have e2 : insE now (insN now l j) a ≠ 0 → (insL now (insN now l j) a).length = (insN now l j).length := fun h => by unfold insL; rw [if_neg h]
        clear haj cx0 cy0
        generalize insL now (insN now l j) a = LN at *
        generalize insN now l j = LJ at *
        generalize insE now LJ a = E at *
        by_cases hE : E = 0
        · have e1' := e1 hE
          subst hE
          clear e1 e2
          go_wp2_with (first
            | (go_at_call 10; (with_reducible refine IN.mono ?_); rintro e w4 ⟨rfl, F4, W4, f4', C4⟩; have cx4 := C4.cell cx gF; have cy4 := C4.cell cy gF; have O4 := C4.owns O1 r1; have B4 := Chg.low KB C4 hF; have hB4 := B4.size)
            | (refine wpList_append_item rfl (.tmp 55) (.tmp 60) rfl w.heap.size _ K rfl (O4.alloc _) _ a rfl (new_at w4 rfl rfl) (new_at w4 rfl rfl) (by omega) (by simp; omega) ?_; intro ad5 m5 c5 w5 O5 G5 r5))
          have hC4 := C4.size
          have n4 : ∀ k, (Value.slice ad1 m1 c1).ownBlock = some k → ¬ F4 k := fun k hk c => by
            rcases f4' k c with e | e
            · exact r1 k hk e
            · have := (O1.lt k hk).2; omega
          have W5 := (W4.kept (Chg.of (F := fun _ => False) (World.grownBy_alloc w4 _ none) (by simp)) (fun _ _ => id)).kept (Chg.of (F := fun k => (Value.slice ad1 m1 c1).ownBlock = some k) G5 fun k hk => hk) (fun k hk c => n4 k c hk)
          go_roundw
          case rel => exact ⟨j + 1, F4, ad5, m5, c5, K ++ [a], by omega, by omega, by go_num, rfl, by rw [HN.out]; exact W5, (fun k hk => by
            rcases f4' k hk with e | e
            · exact hF k e
            · omega), Chg.low (grown_low B4 (World.grownBy_alloc w4 _ none)) (Chg.of (F := fun k => (Value.slice ad1 m1 c1).ownBlock = some k) G5 fun k hk => hk) (fun k hk => (O1.lt k hk).1), O5, (fun k hk c => by
            rcases r5 with e | e
            · exact n4 k (e ▸ hk) c
            · have := W4.lt k c
              rw [e] at hk
              injection hk with hk
              simp at hk
              omega), by rw [HN.out, e1', List.length_append, hK]; rfl⟩
          case measure => simp [intOf]; omega
        · have e2' := e2 hE
          have hE' : (E == 0) = false := by simpa using hE
          clear e1 e2
          go_wp2_with (go_at_call 10; (with_reducible refine IN.mono ?_); rintro e w4 ⟨rfl, F4, W4, f4', C4⟩; have O4 := C4.owns O1 r1; have B4 := Chg.low KB C4 hF)
          go_roundw
          case rel => exact ⟨j + 1, F4, ad1, m1, c1, K, by omega, by omega, by go_num, rfl, by rw [HN.out]; exact W4, (fun k hk => by
            rcases f4' k hk with e | e
            · exact hF k e
            · omega), B4, O4, (fun k hk c => by
            rcases f4' k c with e | e
            · exact r1 k hk e
            · have := (O1.lt k hk).2; omega), by rw [HN.out, e2', hK]⟩
          case measure => simp [intOf]; omega
      · have gg : (j < l.length ∧ decide ((j : Int) < 400) = false) ∨ (¬ j < l.length ∧ decide ((j : Int) < l.length) = false) := by
          by_cases h1 : j < l.length
          · exact .inl ⟨h1, decide_eq_false (by omega)⟩
          · exact .inr ⟨h1, decide_eq_false (by omega)⟩
        clear hgo
        have hm1 := owns_len O1
        rw [hK] at hm1
        subst hm1
        clear O1 r1 hK
        generalize insN now l j = L0 at *
        rcases gg with ⟨g0, g1⟩ | ⟨g0, g1⟩
        all_goals
          go_wp2_with fail
          go_meet
          exact ⟨F, ad1, c1, L0, rfl, hW, hF, KB⟩
  case rest =>
    obtain ⟨F, ad1, c1, L0, rfl, hW, hF, KB⟩ := hcut
    have hlen0 := hW.ok.len
    have KBs := KB.size
    clear HR
    go_upto_block 2 with fail
    go_cut [13, 14] from 62 to 79 (fun s i wx => ∃ (F : Nat → Prop) (o : Nat) (L : List It), s = .int .i64 o ∧ o ≤ 400 ∧ L.length + o = L0.length ∧ Wh wx b now L F ∧ (∀ k, F k → w.heap.size ≤ k) ∧ Below w.heap.size w wx)
    case first =>
      go_wp2_with fail
      go_loopw [13, 14] (fun s i wr => ∃ (j o : Nat) (F : Nat → Prop) (L : List It), j ≤ ds.length ∧ j ≤ 400 ∧ o ≤ j ∧ i = .int .i64 j ∧ s = .int .i64 o ∧ L.length + o = L0.length ∧ Wh wr b now L F ∧ (∀ k, F k → w.heap.size ≤ k) ∧ Below w.heap.size w wr) (fun _ i _ => (500 - intOf i).toNat)
      case atStart => exact ⟨0, 0, F, L0, by omega, by omega, by omega, rfl, rfl, rfl, hW, hF, KB⟩
      case round =>
        obtain ⟨j, o, F, L, hj1, hj2, ho, rfl, rfl, hLo, hW, hF, KB⟩ := hrel
        have KBs := KB.size
        by_cases hgo : j < ds.length ∧ j < 400
        · obtain ⟨hlt, h4⟩ := hgo
          obtain ⟨x, hxj⟩ : ∃ a, ds[j]? = some a := ⟨ds[j], List.getElem?_eq_getElem hlt⟩
          have hid := HX.out.2.1 x (List.mem_of_getElem? hxj)
          obtain ⟨g, oo, hix, cx0⟩ := HX.out.idx (.inl rfl) hxj
          have cx := (KB.cell (p := ⟨g, oo, none⟩) (World.block_lt_of_cell? w _ cx0)).trans cx0
          have CN := cancel_any b now L F x hid wr hW
          have dn := cut_len (x := x) hW.ok.srt hW.ok.uni
          clear cx0 hxj
          generalize dropL x L = LD at *
          cases hany : L.any fun a => a.1 == x
          · rw [hany] at CN dn
            simp at dn
            go_wp2_with (go_at_call 12; (with_reducible refine CN.mono ?_); rintro e w4 ⟨rfl, F4, W4, f4', C4⟩; have B4 := Chg.low KB C4 hF)
            go_roundw
            case rel => exact ⟨j + 1, o, F4, LD, by omega, by omega, by omega, by go_num, rfl, by omega, W4, (fun k hk => by
              rcases f4' k hk with e | e
              · exact hF k e
              · omega), B4⟩
            case measure => simp [intOf]; omega
          · rw [hany] at CN dn
            simp at dn
            go_wp2_with (go_at_call 12; (with_reducible refine CN.mono ?_); rintro e w4 ⟨rfl, F4, W4, f4', C4⟩; have B4 := Chg.low KB C4 hF)
            go_roundw
            case rel => exact ⟨j + 1, o + 1, F4, LD, by omega, by omega, by omega, by go_num, by go_num, by omega, W4, (fun k hk => by
              rcases f4' k hk with e | e
              · exact hF k e
              · omega), B4⟩
            case measure => simp [intOf]; omega
        · have gg : (j < ds.length ∧ decide ((j : Int) < 400) = false) ∨ (¬ j < ds.length ∧ decide ((j : Int) < ds.length) = false) := by
            by_cases h1 : j < ds.length
            · exact .inl ⟨h1, decide_eq_false (by omega)⟩
            · exact .inr ⟨h1, decide_eq_false (by omega)⟩
          clear hgo
          rcases gg with ⟨g0, g1⟩ | ⟨g0, g1⟩
          all_goals
            go_wp2_with fail
            go_meet
            exact ⟨F, o, L, rfl, by omega, hLo, hW, hF, KB⟩
    case rest =>
      obtain ⟨F, o, L1, rfl, ho, hLo, hW, hF, KB⟩ := hcut
      have WT := waiting_any b now L1 F _ hW
      have hne : ((L1.length : Int) != (L0.length : Int) - (o : Int)) = false := by
        rw [show (L0.length : Int) - (o : Int) = L1.length by omega]; simp
      clear HX
      go_upto_block 4 with (go_at_call 18; (with_reducible refine WT.mono ?_); rintro e w5 ⟨a5, m5, c5, rfl, O5, G5⟩; have hm5 := owns_len O5; subst hm5)
      have KB5 := grown_low KB G5
      have W5 := hW.kept (Chg.of (F := fun _ => False) G5 (by simp)) (fun _ _ => id)
      clear O5 G5 WT hW KB
      go_cut [15, 16, 17, 18, 19, 20] from 89 to 172 (fun n s i _ _ _ wx => ∃ (nn : Int) (sn : Nat) (F : Nat → Prop) (L : List It), n = .int .i64 nn ∧ s = .int .i64 sn ∧ sn + L.length = L1.length ∧ Wh wx b nn L F ∧ Below w.heap.size w wx)
      case first =>
        go_wp2_with fail
        go_loopw [15, 16, 17] (fun n s i wr => ∃ (j sn : Nat) (nn : Int) (F : Nat → Prop) (L : List It), j ≤ ts.length ∧ j ≤ 400 ∧ i = .int .i64 j ∧ n = .int .i64 nn ∧ s = .int .i64 sn ∧ sn + L.length = L1.length ∧ Wh wr b nn L F ∧ (∀ k, F k → w.heap.size ≤ k) ∧ Below w.heap.size w wr) (fun _ _ i _ => (500 - intOf i).toNat)
        case atStart => exact ⟨0, 0, now, F, L1, by omega, by omega, rfl, rfl, rfl, by omega, W5, hF, KB5⟩
        case round =>
          obtain ⟨j, sn, nn, F, L, hj1, hj2, rfl, rfl, rfl, hsL, hW, hF, KB⟩ := hrel
          have KBs := KB.size
          by_cases hgo : j < ts.length ∧ j < 400
          · obtain ⟨hlt, h4⟩ := hgo
            obtain ⟨x, hxj⟩ : ∃ a, ts[j]? = some a := ⟨ts[j], List.getElem?_eq_getElem hlt⟩
            obtain ⟨g, oo, hix, cx0⟩ := HT.out.idx (.inr rfl) hxj
            have hgw : g < w.heap.size := World.block_lt_of_cell? w _ cx0
            have cx := (KB.cell (p := ⟨g, oo, none⟩) hgw).trans cx0
            have hokL := hW.ok
            clear hxj
            by_cases hbad : x < nn ∨ 226157759 < x
            · have AB := advance_bad b nn x L F hbad wr hW
              by_cases h1 : x < nn
              · have d1 : decide (x ≥ nn) = false := decide_eq_false (by omega)
                have d2 : decide (nn ≤ x) = false := decide_eq_false (by omega)
                clear hbad
                go_wp2_with (go_at_call 14; (with_reducible refine AB.mono ?_); rintro e w6 ⟨rfl, e6⟩; have e6' := e6.symm; clear e6; subst e6')
                go_roundw
                case rel => exact ⟨j + 1, sn, nn, F, L, by omega, by omega, by go_num, rfl, rfl, hsL, hW, hF, KB⟩
                case measure => simp [intOf]; omega
              · have h2 : nn ≤ x := by omega
                have d1 : decide (x ≤ 226157759) = false := decide_eq_false (by omega)
                clear hbad h1
                go_wp2_with (go_at_call 14; (with_reducible refine AB.mono ?_); rintro e w6 ⟨rfl, e6⟩; have e6' := e6.symm; clear e6; subst e6')
                go_roundw
                case rel => exact ⟨j + 1, sn, nn, F, L, by omega, by omega, by go_num, rfl, rfl, hsL, hW, hF, KB⟩
                case measure => simp [intOf]; omega
            · have AO := advance_ok b nn x L F (by omega) (by omega) wr hW
              have HDf : Hid (∀ (k : Nat) (a : It), (dueL x L)[k]? = some a → nn < a.2 ∧ a.2 ≤ x) := fun k a h => by
                obtain ⟨m1, m2⟩ := List.mem_filter.1 (List.mem_of_getElem? h)
                exact ⟨hokL.lo a m1, by simpa using m2⟩
              have HDs : Hid (Srt (dueL x L)) := srt_filter hokL.srt _
              have hpt := due_parts x L
              have hlL := hokL.len
              clear hbad
              generalize dueL x L = DL at *
              generalize restL x L = RL at *
              go_wp2_with (go_at_call 14; (with_reducible refine AO.mono ?_); rintro e w6 ⟨a6, m6, c6, rfl, O6, F6, W6, f6', r6, C6⟩; have hm6 := owns_len O6; subst hm6)
              have R6 := Ri.of_own O6
              have KB6 := Chg.low KB C6 hF
              have f6 : ∀ k, F6 k → w.heap.size ≤ k := fun k hk => by
                rcases f6' k hk with e | e
                · exact hF k e
                · omega
              have cx6 := (KB6.cell (p := ⟨g, oo, none⟩) hgw).trans cx0
              clear AO hW KB cx O6 cx0
              go_loopw [20] (fun i wr => ∃ k : Nat, k ≤ DL.length ∧ i = .int .i64 k ∧ w6.grownBy wr none) (fun i _ => (9000 - intOf i).toNat)
              case atStart => exact ⟨0, by omega, rfl, grown_refl _ _⟩
              case round =>
                obtain ⟨k, hk, rfl, G⟩ := hrel
                by_cases hlk : k < DL.length
                · obtain ⟨a, hak⟩ : ∃ a, DL[k]? = some a := ⟨DL[k], List.getElem?_eq_getElem hlk⟩
                  obtain ⟨q0, q1⟩ := HDf.out k a hak
                  obtain ⟨g1, o1, i1, x1, y1⟩ := (R6.grown G).idx hak
                  have cx7 := G.cell cx6 (by simp)
                  have d2 : decide (a.2 > x) = false := decide_eq_false (by omega)
                  have d3 : decide (x < a.2) = false := decide_eq_false (by omega)
                  have d1 : decide (a.2 ≤ nn) = false := decide_eq_false (by omega)
                  by_cases hk0 : k = 0
                  · subst hk0
                    rw [show ((0 : Nat) : Int) = 0 from rfl] at i1
                    clear hak
                    go_upto_region 32 with fail
                    go_quiet (fail)
                    go_wp2_with fail
                    go_roundw
                    case rel => exact ⟨1, by omega, rfl, by first | exact grown_drew G | exact grown_drewN G _⟩
                    case measure => simp [intOf]
                  · obtain ⟨p, hpk⟩ : ∃ p, DL[k - 1]? = some p := ⟨DL[k - 1]'(by omega), List.getElem?_eq_getElem (by omega)⟩
                    obtain ⟨g2, o2, i2, x2, y2⟩ := (R6.grown G).idx hpk
                    rw [show ((k - 1 : Nat) : Int) = IntKind.i64.wrap ((k : Int) - 1) by rw [IntKind.wrap_i64]; omega] at i2
                    have hbf := srt_next HDs.out hpk (by rw [show k - 1 + 1 = k by omega]; exact hak)
                    have BF : ∀ w, Calls Try.prog 19 #[.agg #[.int .i64 p.1, .int .i64 p.2], .agg #[.int .i64 a.1, .int .i64 a.2]] w fun e w' => e = .returned (.bool true) ∧ w.grownBy w' none := fun w => by
                      have := before_any p a w
                      rw [hbf] at this
                      exact this
                    have d4 : decide ((k : Int) > 0) = true := decide_eq_true (by omega)
                    have d5 : decide (0 < (k : Int)) = true := decide_eq_true (by omega)
                    have d6 : 0 < k := by omega
                    clear hak hpk hbf hk0
                    go_upto_region 32 with fail
                    refine region_tail 32 (by kernel_rfl) (by kernel_rfl) ?_
                    simp only [List.take_succ_cons, List.take_zero, List.drop_succ_cons, List.drop_zero]
                    iterate 32 still_step
                    refine wpStill_nil ?_
                    go_wp2_with (go_at_call 19; (with_reducible refine (BF _).mono ?_); rintro e w8 ⟨rfl, G8⟩)
                    go_roundw
                    case rel => exact ⟨k + 1, by omega, by go_num, grown_more (grown_drew G) G8 (by simp)⟩
                    case measure => simp [intOf]; omega
                · have hd : decide ((k : Int) < DL.length) = false := decide_eq_false (by omega)
                  have cx7 := G.cell cx6 (by simp)
                  go_wp2_with fail
                  go_roundw
                  case rel => exact ⟨j + 1, sn + DL.length, x, F6, RL, by omega, by omega, by go_num, rfl, by go_num, by omega, W6.kept (Chg.of (F := fun _ => False) G (by simp)) (fun _ _ => id), f6, grown_low KB6 G⟩
                  case measure => simp [intOf]; omega
          · have gg : (j < ts.length ∧ decide ((j : Int) < 400) = false) ∨ (¬ j < ts.length ∧ decide ((j : Int) < ts.length) = false) := by
              by_cases h1 : j < ts.length
              · exact .inl ⟨h1, decide_eq_false (by omega)⟩
              · exact .inr ⟨h1, decide_eq_false (by omega)⟩
            clear hgo
            rcases gg with ⟨g0, g1⟩ | ⟨g0, g1⟩
            all_goals
              go_wp2_with fail
              go_meet
              exact ⟨nn, sn, F, L, rfl, rfl, hsL, hW, KB⟩
      case rest =>
        obtain ⟨nn, sn, F, L, rfl, rfl, hsL, hW, KB⟩ := hcut
        have WT := waiting_any b nn L F _ hW
        have hokL := hW.ok
        have hlL := hokL.len
        have HDf : Hid (∀ (k : Nat) (a : It), L[k]? = some a → nn < a.2 ∧ True) := fun k a h => ⟨hokL.lo a (List.mem_of_getElem? h), trivial⟩
        have HDs : Hid (Srt L) := hokL.srt
        have hfin : (((sn : Int) + (L.length : Int)) == (L0.length : Int) - (o : Int)) = true := by
          rw [show (L0.length : Int) - (o : Int) = (sn : Int) + L.length by omega]; simp
        clear hokL HT hne
        go_wp2_with (go_at_call 18; (with_reducible refine WT.mono ?_); rintro e w6 ⟨a6, m6, c6, rfl, O6, G6⟩; have hm6 := owns_len O6; subst hm6)
        have R6 := Ri.of_own O6
        have KB6 := grown_low KB G6
        clear WT hW KB O6
        go_loopw [22] (fun i wr => ∃ k : Nat, k ≤ L.length ∧ i = .int .i64 k ∧ w6.grownBy wr none) (fun i _ => (9000 - intOf i).toNat)
        case atStart => exact ⟨0, by omega, rfl, grown_refl _ _⟩
        case round =>
          obtain ⟨k, hk, rfl, G⟩ := hrel
          by_cases hlk : k < L.length
          · obtain ⟨a, hak⟩ : ∃ a, L[k]? = some a := ⟨L[k], List.getElem?_eq_getElem hlk⟩
            obtain ⟨q0, q1⟩ := HDf.out k a hak
            obtain ⟨g1, o1, i1, x1, y1⟩ := (R6.grown G).idx hak
            skip
            have d1 : decide (a.2 ≤ nn) = false := decide_eq_false (by omega)
            by_cases hk0 : k = 0
            · subst hk0
              rw [show ((0 : Nat) : Int) = 0 from rfl] at i1
              clear hak
              go_upto_region 40 with fail
              go_quiet (fail)
              go_wp2_with fail
              go_roundw
              case rel => exact ⟨1, by omega, rfl, by first | exact grown_drew G | exact grown_drewN G _⟩
              case measure => simp [intOf]
            · obtain ⟨p, hpk⟩ : ∃ p, L[k - 1]? = some p := ⟨L[k - 1]'(by omega), List.getElem?_eq_getElem (by omega)⟩
              obtain ⟨g2, o2, i2, x2, y2⟩ := (R6.grown G).idx hpk
              rw [show ((k - 1 : Nat) : Int) = IntKind.i64.wrap ((k : Int) - 1) by rw [IntKind.wrap_i64]; omega] at i2
              have hbf := srt_next HDs.out hpk (by rw [show k - 1 + 1 = k by omega]; exact hak)
              have BF : ∀ w, Calls Try.prog 19 #[.agg #[.int .i64 p.1, .int .i64 p.2], .agg #[.int .i64 a.1, .int .i64 a.2]] w fun e w' => e = .returned (.bool true) ∧ w.grownBy w' none := fun w => by
                have := before_any p a w
                rw [hbf] at this
                exact this
              have d4 : decide ((k : Int) > 0) = true := decide_eq_true (by omega)
              have d5 : decide (0 < (k : Int)) = true := decide_eq_true (by omega)
              have d6 : 0 < k := by omega
              clear hak hpk hbf hk0
              go_upto_region 40 with fail
              refine region_tail 20 (by kernel_rfl) (by kernel_rfl) ?_
              simp only [List.take_succ_cons, List.take_zero, List.drop_succ_cons, List.drop_zero]
              iterate 20 still_step
              refine wpStill_nil ?_
              go_wp2_with (go_at_call 19; (with_reducible refine (BF _).mono ?_); rintro e w8 ⟨rfl, G8⟩)
              go_roundw
              case rel => exact ⟨k + 1, by omega, by go_num, grown_more (grown_drew G) G8 (by simp)⟩
              case measure => simp [intOf]; omega
          · have hd : decide ((k : Int) < L.length) = false := decide_eq_false (by omega)
            go_wp2_with fail
            go_ret
            exact ⟨rfl, grown_low KB6 G⟩
theorem wheelOnce.walk (W : World) (now : Int) (hn : Lit.wf (.int .i64 now) = true) (v1 : Value) (o1 : ∃ l, Ra W v1 l) (v2 : Value) (o2 : ∃ l, Rn W v2 44 l) (v3 : Value) (o3 : ∃ l, Rn W v3 45 l) :
    Calls Try.prog 4 #[.int .i64 now, v1, v2, v3] W fun e W' => e = .returned (.bool true) ∧ Below W.heap.size W W' := by
  obtain ⟨l, hl⟩ := o1
  obtain ⟨ds, hds⟩ := o2
  obtain ⟨ts, hts⟩ := o3
  by_cases hb : now < 0 ∨ 226157759 < now
  · exact once_bad now v1 v2 v3 hb W
  · obtain ⟨ad, c, rfl, _⟩ := id hl.1
    obtain ⟨add, cd, rfl, _⟩ := id hds.1
    obtain ⟨adt, ct, rfl, _⟩ := id hts.1
    exact once_ok now ad c l add cd ds adt ct ts (by omega) (by omega) W hl hds hts
end Go.Proofs.Ytijgekdhjfbgkaa
