/- Which write a crash tears. -/
import Derived.Test.YthpeeldpalmakaaQSort
namespace Go.Proofs.Ythpeeldpalmakaa
open Go.RowKit Go.Sort Go.Shelf Dsk
set_option linter.unusedVariables false

theorem nums_lay_cons (p : List UInt8 × Nat) (R : List (List UInt8 × Nat)) (c : Nat → Fl) : nums (lay (p :: R) c) = (c p.2).ws.map (·.1) ++ nums (lay R c) := by rw [lay_cons, nums_cons]
theorem nums_perm {L L' : Ds} (h : L.Perm L') : (nums L).Perm (nums L') := h.flatMap_right _
set_option maxRecDepth 100000 in
set_option maxHeartbeats 6400000 in
theorem behind_run {w : World} {b bm : Nat} {M : List (List UInt8 × Nat)} {c : Nat → Fl} {G : Nat → Nat → Prop} {m : Int} (h : DkD w b bm M c G m) (keep : Nat) (hk : keep ≤ 9223372036854775807) (hb : (nums (lay M c)).length ≤ 1000000000) :
    Calls Try.prog 31 #[.pointer (some ⟨b, 0, none⟩), .int .i64 (keep : Int)] w fun e w' => e = .returned (.int .i64 (behind ⟨lay M c, m⟩ keep)) ∧ w.grownBy w' none := by
  have hm := h.map
  have c0 := h.c0
  have H : Hid (DkD w b bm M c G m) := h
  have hbm : bm < w.heap.size := hm.lt
  obtain ⟨B, hB⟩ : ∃ B, B = behind ⟨lay M c, m⟩ keep := ⟨_, rfl⟩
  rw [← hB]
  have HB : Hid (B = behind ⟨lay M c, m⟩ keep) := hB
  have HN : Hid ((nums (lay M c)).length ≤ 1000000000) := hb
  clear h hB hb
  go_enter Try.func31, Try.ntmps31
  go_wp2_with (at_range; refine wpList_range_M _ rfl _ rfl rfl hm ?_; intro w2 cnt2 hrg2 hg2 hs2)
  go_frame
  obtain ⟨r, hr⟩ : ∃ r, r = w.heap.size := ⟨_, rfl⟩
  rw [← hr] at hrg2 ⊢
  have hr1 : Hid (w.heap.size ≤ r) := Nat.le_of_eq hr.symm
  clear hs2 hr hm c0
  go_loopw [5] (fun v wr => ∃ R cnt l ad n cp, v = Value.slice ad n cp ∧ Rng wr bm r M R cnt ∧ eN.Own wr w.heap.size (Value.slice ad n cp) l ∧ (Value.slice ad n cp).ownBlock ≠ some r ∧ (l ++ nums (lay R c)).Perm (nums (lay M c)) ∧ w.grownBy wr none) (fun _ wr => wr.rangeLeft bm r)
  case atStart => exact ⟨M, cnt2, [], none, 0, 0, rfl, hrg2, Elm.nil _ _, by simp [Value.ownBlock], by simp, hg2⟩
  case round =>
    obtain ⟨R, cnt, l, ad, n, cp, rfl, hrg, hOr, hnr, hP, hgw⟩ := hrel
    have HP : Hid ((l ++ nums (lay R c)).Perm (nums (lay M c))) := hP
    clear hP hrg2 hg2
    go_wp2_with (at_next; refine wpList_next_M _ rfl _ rfl rfl hrg ?_ ?_)
    · intro h0
      have hp' : l.Perm (nums (lay M c)) := by have := HP.out; rw [h0] at this; simpa [lay, nums] using this
      have hll : l.length = (nums (lay M c)).length := hp'.length_eq
      have hN := HN.out
      have hn := hOr.len
      subst hn
      have OD := sortN_any w.heap.size (.slice ad l.length cp) l wr (by omega) hOr
      have hrow : ∀ k, (Value.slice ad l.length cp).ownBlock = some k → w.heap.size ≤ k := fun k hk => (hOr.lt k hk).1
      have k1 := hgw.cell H.out.c1 (by simp)
      have hlN : (l.length : Int) ≤ 1000000000 := by omega
      by_cases hkp : l.length ≤ keep
      · have e1 : B = m := by rw [HB.out]; unfold behind; rw [if_pos (by rw [← hll]; exact hkp)]
        have HE : Hid (B = m) := e1
        clear hrg hOr hll h0 hp' OD e1 hN
        go_wp2
        go_ret
        exact ⟨ret_int HE.out.symm, hgw⟩
      · have hsl : keep < (sorted l).length := by rw [sorted_len]; omega
        have e1 : B = (sorted l)[keep]'hsl := by
          rw [HB.out]; unfold behind
          rw [if_neg (by rw [← hll]; exact hkp)]
          show (sorted (nums (lay M c))).getD keep 0 = _
          rw [← sorted_perm hp']
          simp [List.getD, hsl]
        have hget : (sorted l)[keep]? = some B := by rw [e1]; exact List.getElem?_eq_getElem hsl
        have hlen : (Value.slice ad l.length cp) = .slice ad (sorted l).length cp := by rw [sorted_len]
        have IDX : Hid (∀ w3, eN.Own w3 w.heap.size (.slice ad l.length cp) (sorted l) → ∃ g q, (∀ W, (Instr.indexAt 67 (.slice ad l.length cp) (.int .i64 (keep : Int))).run Try.prog W = .ok (.pointer (some ⟨g, q, none⟩)) W) ∧ w3.cell? ⟨g, q, none⟩ = some (.int .i64 B)) := fun w3 hO3 => by
          obtain ⟨g, q, a1, a2, _⟩ := hO3.idx (by rw [sorted_len]; omega) hget
          exact ⟨g, q, a1, a2 0 _ rfl⟩
        clear hrg hOr hll h0 hp' e1 hget hlen hsl hN
        go_wp2_with (go_at_call 37; (with_reducible refine OD.mono ?_); rintro e w3 ⟨rfl, hO3, hg3⟩; obtain ⟨g, q, hix, hcl⟩ := IDX.out w3 hO3)
        go_ret
        exact ⟨rfl, grown_more hgw hg3 fun k hk => .inr (hrow k hk)⟩
    · intro nm f R' w3 cnt1 hmem hperm hne hrg3 hlt hg3 hs3 hen
      have hgw3 := grown_more hgw hg3 (fun k e => .inr (by injection e with e; have := hr1.out; omega))
      have hO3 := hOr.but hg3 (fun k hk e => hnr (by rw [hk]; exact e.symm))
      obtain ⟨vb, vw, g1, _⟩ := ((H.out.grown hgw3).fil _ hmem)
      obtain ⟨adw, cw, rfl⟩ := Elm.form g1.rw
      have k0 := g1.c1
      have HPR : Hid ((l ++ (c f).ws.map (·.1) ++ nums (lay R' c)).Perm (nums (lay M c))) := by
        have h1 := (nums_perm (lay_perm c hperm)).append_left l
        rw [nums_lay_cons, ← List.append_assoc] at h1
        exact h1.symm.trans HP.out
      have hlW : l.length + (c f).ws.length ≤ 1000000000 := by
        have h1 := HPR.out.length_eq
        have h2 := HN.out
        simp only [List.length_append, List.length_map] at h1
        omega
      have hrgm := hrg.left
      have hrgm3 := hrg3.left
      have HM3 : Hid (w3.rangeLeft bm r < wr.rangeLeft bm r) := by
        show _ < _
        rw [hrgm, hrgm3]; exact hlt
      have HWS : Hid (eW.Own w3 0 (.slice adw (c f).ws.length cw) (c f).ws) := g1.rw
      have hnl : (Value.slice ad n cp).ownBlock ≠ some bm := fun e => by have := (hOr.lt bm e).1; omega
      have hz3 := hgw3.size
      have hlN : ((c f).ws.length : Int) ≤ 1000000000 := by omega
      have HW3 : Hid (∀ wi, w.grownBy wi none → eW.Own wi 0 (.slice adw (c f).ws.length cw) (c f).ws) := fun wi g => by
        obtain ⟨vb', vw', g2, _⟩ := ((H.out.grown g).fil _ hmem)
        have e1 := g2.c1
        have e2 := (H.out.fil _ hmem)
        obtain ⟨vb0, vw0, g0, _⟩ := e2
        have x1 := hgw3.cell g0.c1 (by simp)
        rw [k0] at x1
        injection x1 with x1
        have x2 := g.cell g0.c1 (by simp)
        rw [← x1, e1] at x2
        injection x2 with x2
        rw [← x2]
        exact g2.rw
      clear g1 hperm hne hmem hrg hrgm hrgm3 hlt hOr hs3 hg3 hgw HP
      go_wp2
      go_loopw [5, 24] (fun v i wi => ∃ k : Nat, ∃ ad n cp, k ≤ (c f).ws.length ∧ i = Value.int .i64 (k : Int) ∧ v = Value.slice ad n cp ∧ eN.Own wi w.heap.size (Value.slice ad n cp) (l ++ ((c f).ws.take k).map (·.1)) ∧ (Value.slice ad n cp).ownBlock ≠ some r ∧ Rng wi bm r M R' cnt1 ∧ w.grownBy wi none) (fun _ i _ => (c f).ws.length - (intOf i).toNat)
      case atStart => exact ⟨0, ad, n, cp, Nat.zero_le _, rfl, rfl, by simpa using hO3, hnr, hrg3, hgw3⟩
      case round =>
        obtain ⟨k, ad, n, cp, hkl, rfl, rfl, hO, hn2, hrgi, hgi⟩ := hrel
        clear hO3 hnr hnl hz3
        by_cases hlt : k < (c f).ws.length
        · obtain ⟨p, hp⟩ : ∃ p, (c f).ws[k]? = some p := ⟨_, List.getElem?_eq_getElem hlt⟩
          obtain ⟨g, q, hidx, hcell, _, _⟩ := (HW3.out _ hgi).idx (by omega) hp
          have hidx' : ∀ W, (Instr.indexAt 56 (.slice adw (c f).ws.length cw) (.int .i64 (k : Int))).run Try.prog W = .ok (.pointer (some ⟨g, q, none⟩)) W := hidx
          have y0 : wr.cell? ⟨g, q, none⟩ = some (.int .i64 p.1) := hcell 0 _ rfl
          have y1 : wr.cell? ⟨g, q + 1, none⟩ = some (.int .i64 (p.2 : Int)) := hcell 1 _ rfl
          have HTK : Hid (l ++ ((c f).ws.take (k + 1)).map (·.1) = (l ++ ((c f).ws.take k).map (·.1)) ++ [p.1]) := by
            show _ = _
            rw [List.take_add_one, hp]
            simp
          have hll : (l ++ ((c f).ws.take k).map (·.1)).length ≤ 1000000000 := by simp; omega
          generalize l ++ ((c f).ws.take k).map (·.1) = l1 at hO HTK hll
          have hx0 : ∀ o1 o2, o2 = Obj.cells #[.int .i64 p.1] 2 → eN.Rx ((wr.alloc o1).alloc o2) (.slice (some ⟨wr.heap.size + 1, 0, none⟩) 1 1) [p.1] := fun o1 o2 ho => Elm.rx_one fun j u hu => by
            match j, hu with
            | 0, hu => injection hu with hu; rw [← hu, ho]; exact new_at (wr.alloc o1) (by simp) rfl
          have hO4 : ∀ o1 o2, eN.Own ((wr.alloc o1).alloc o2) w.heap.size (.slice ad n cp) l1 := fun o1 o2 => (hO.grown (World.grownBy_alloc wr o1 none)).grown (World.grownBy_alloc _ o2 none)
          have GA : ∀ o1 o2, w.grownBy ((wr.alloc o1).alloc o2) none := fun o1 o2 => grown_alloc (grown_alloc hgi o1) o2
          have RA : ∀ o1 o2, Rng ((wr.alloc o1).alloc o2) bm r M R' cnt1 := fun o1 o2 => (hrgi.kept (World.grownBy_alloc wr o1 none) (by simp) (by simp)).kept (World.grownBy_alloc _ o2 none) (by simp) (by simp)
          have hnb : (Value.slice ad n cp).ownBlock ≠ some bm := fun e => by have := (hO.lt bm e).1; omega
          have hrr := hrgi.lt.2.1
          have hwz := hgi.size
          have ol : ∀ k, (Value.slice ad n cp).ownBlock = some k → w.heap.size ≤ k := fun k hk => (hO.lt k hk).1
          clear hidx hcell hp
          go_wp2_with (at_builtin; refine Elm.wpList_append (E := eN) rfl (.tmp 28) (.tmp 31) rfl w.heap.size _ l1 rfl (hO4 _ _) _ [p.1] rfl (hx0 _ _ rfl) (by simp; omega) (by show (l1.length + 1) * 8 ≤ _; omega) (by simp; omega) ?_; intro ad4 n4 c4 w4 hO5 hg5 hl5)
          go_roundw
          case rel =>
            refine ⟨k + 1, ad4, n4, c4, by omega, by go_num, rfl, by rw [HTK.out]; exact hO5, fun e => ?_, (RA _ _).kept hg5 (fun e => hnb e.symm) (fun e => hn2 e.symm), grown_more (GA _ _) hg5 (fun k hk => .inr (ol k hk))⟩
            rcases hl5 with h5 | h5
            · rw [h5] at e; exact hn2 e
            · rw [h5] at e; injection e with e; simp at e; omega
          case measure => simp [intOf]; omega
        · have hkk : (c f).ws.take k = (c f).ws := List.take_of_length_le (by omega)
          rw [hkk] at hO
          have HEQ : Hid (wr.rangeLeft bm r = w3.rangeLeft bm r) := by
            show _ = _
            rw [hrgi.left, ← hrg3.left]
          clear hkk hrg3 hgw3
          go_wp2
          go_roundw
          case rel => exact ⟨R', cnt1, l ++ (c f).ws.map (·.1), ad, n, cp, rfl, hrgi, hO, hn2, HPR.out, hgi⟩
          case measure => rw [HEQ.out]; exact HM3.out
end Go.Proofs.Ythpeeldpalmakaa
