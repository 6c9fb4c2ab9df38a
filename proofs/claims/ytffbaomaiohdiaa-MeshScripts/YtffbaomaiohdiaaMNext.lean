/- Deliver and Next: whatever they are asked. -/
import Derived.Test.YtffbaomaiohdiaaMApi
namespace Go.Proofs.Ytffbaomaiohdiaa
open Go.RowKit Msh
set_option linter.unusedVariables false
set_option maxRecDepth 10000

/-- The zero packet's block. -/
abbrev z37 : Obj := .cells #[.int .i64 0, .int .i64 0, .int .i64 0, .string ⟨#[]⟩] 37
set_option maxRecDepth 100000 in
set_option maxHeartbeats 800000 in
theorem dlv_none (b bm : Nat) (v : Value) (s : Ms) (F : Nat → Prop) (id : Int) (w : World) (h1 : MeD w b bm v s) (hth : there s.l id = false) :
    Calls Try.prog 11 #[.pointer (some ⟨b, 0, none⟩), .int .i64 id] w fun e w' => e = .returned (.tuple #[pv pk0, .bool false]) ∧ w.grownBy w' none := by
  have FA := fun W g => find_any b bm v s id W (h1.grown g)
  rw [hth] at FA
  have T2 : Hid (∀ W, (w.alloc z37).grownBy W none → W.there w.heap.size 0 4) := fun W g => there_kept (there_new w _ _ rfl rfl) g (by simp) (by omega)
  clear h1 hth
  go_enter Try.func11, Try.ntmps11
  go_wp2_with (first
    | (refine store_pk w.heap.size pk0 rfl rfl T3 ?_; intro w4 hR4 hT4 hg4)
    | (go_at_call 26; (with_reducible refine (FA _ ?_).mono ?_); (exact World.grownBy_alloc w _ none); rintro e w2 ⟨rfl, hg2⟩; have T3 := T2.out w2 hg2))
  refine bodyPost_ret (res_pk2 (p := 4) (u := 5) (x := pk0) rfl rfl hR4) rfl ⟨rfl, ?_⟩
  exact grown_more (grown_tr (World.grownBy_alloc w _ none) hg2) hg4 fun k e => .inr (by injection e with e; omega)
set_option maxRecDepth 100000 in
set_option maxHeartbeats 800000 in
theorem dlv_cut (b bm : Nat) (v : Value) (s : Ms) (F : Nat → Prop) (id : Int) (p : Pk) (w : World) (h1 : MeD w b bm v s) (hth : there s.l id = true) (hp : s.l[pos s.l id]? = some p) (hc : isCut s.cs p.fm p.tt = true) :
    Calls Try.prog 11 #[.pointer (some ⟨b, 0, none⟩), .int .i64 id] w fun e w' => e = .returned (.tuple #[pv pk0, .bool false]) ∧ w.grownBy w' none := by
  have FA := fun W g => find_any b bm v s id W (h1.grown g)
  rw [hth] at FA
  have hmem := List.mem_of_getElem? hp
  have IC := fun W g => isCut_any b bm v s p W (h1.grown g) (h1.i64 p hmem).1 (h1.i64 p hmem).2
  rw [hc] at IC
  have T2 : Hid (∀ W, (w.alloc z37).grownBy W none → W.there w.heap.size 0 4) := fun W g => there_kept (there_new w _ _ rfl rfl) g (by simp) (by omega)
  have hil := (List.getElem?_eq_some_iff.1 hp).1
  have hl512 := h1.ok.len
  obtain ⟨g, o, c, hv, hr⟩ := range_pk h1.row.rx hp
  have c0 := h1.c0
  subst hv
  have RW : Hid (∀ W, w.grownBy W none → W.cell? ⟨b, 0, none⟩ = some (.slice (some ⟨g, o, none⟩) s.l.length c) ∧ W.rangeAt g (o + pos s.l id * 4) (eP.enc p)) := fun W hg => ⟨hg.cell c0 (by simp), range_kept hr hg (by simp)⟩
  generalize s.l.length = N at *
  generalize pos s.l id = i at *
  clear h1 hth hr hp hc hmem
  go_enter Try.func11, Try.ntmps11
  go_wp2_with (first
    | (refine store_pk w.heap.size pk0 rfl rfl T3 ?_; intro w4 hR4 hT4 hg4)
    | (go_at_call 26; (with_reducible refine (FA _ ?_).mono ?_); (exact World.grownBy_alloc w _ none); rintro e w2 ⟨rfl, hg2⟩; have hg3 := grown_tr (World.grownBy_alloc w z37 none) hg2; obtain ⟨c02, R2⟩ := RW.out w2 hg3; have x0 := R2 0 _ rfl; have x1 := R2 1 _ rfl; have x2 := R2 2 _ rfl; have x3 := R2 3 _ rfl; simp only [Nat.add_zero] at x0)
    | (go_at_call 27; (with_reducible refine (IC _ hg3).mono ?_); rintro e w3 ⟨rfl, hg4'⟩; have T3 := T2.out w3 (grown_tr hg2 hg4')))
  refine bodyPost_ret (res_pk2 (p := 4) (u := 5) (x := pk0) rfl rfl hR4) rfl ⟨rfl, ?_⟩
  exact grown_more (grown_tr hg3 hg4') hg4 fun k e => .inr (by injection e with e; omega)
set_option maxRecDepth 100000 in
set_option maxHeartbeats 800000 in
theorem dlv_ok (b bm : Nat) (v : Value) (s : Ms) (F : Nat → Prop) (id : Int) (p : Pk) (w : World) (h1 : MeD w b bm v s) (h2 : ∀ k, F k ↔ (k = b ∨ k = bm ∨ v.ownBlock = some k)) (hth : there s.l id = true) (hp : s.l[pos s.l id]? = some p) (hc : isCut s.cs p.fm p.tt = false) :
    Calls Try.prog 11 #[.pointer (some ⟨b, 0, none⟩), .int .i64 id] w fun e w' => e = .returned (.tuple #[pv p, .bool true]) ∧ Left w w' b (outS s (pos s.l id)) F := by
  have H0 : Me w b s F := ⟨bm, v, h1, h2⟩
  have FL := H0.lt
  have FA := fun W g => find_any b bm v s id W (h1.grown g)
  rw [hth] at FA
  have hmem := List.mem_of_getElem? hp
  have IC := fun W g => isCut_any b bm v s p W (h1.grown g) (h1.i64 p hmem).1 (h1.i64 p hmem).2
  rw [hc] at IC
  have TK := fun W g => take_any b s F (pos s.l id) p W (H0.grown g) hp
  have T2 : Hid (∀ W, (w.alloc z37).grownBy W none → W.there w.heap.size 0 4) := fun W g => there_kept (there_new w _ _ rfl rfl) g (by simp) (by omega)
  have hil := (List.getElem?_eq_some_iff.1 hp).1
  have hl512 := h1.ok.len
  obtain ⟨g, o, c, hv, hr⟩ := range_pk h1.row.rx hp
  have c0 := h1.c0
  subst hv
  have RW : Hid (∀ W, w.grownBy W none → W.cell? ⟨b, 0, none⟩ = some (.slice (some ⟨g, o, none⟩) s.l.length c) ∧ W.rangeAt g (o + pos s.l id * 4) (eP.enc p)) := fun W hg => ⟨hg.cell c0 (by simp), range_kept hr hg (by simp)⟩
  have FH : Hid (∀ k, F k → k < w.heap.size) := FL
  generalize s.l.length = N at *
  generalize pos s.l id = i at *
  clear h1 hth hr hp hc hmem H0 FL h2
  go_enter Try.func11, Try.ntmps11
  go_wp2_with (first
    | (refine store_pk w.heap.size p rfl rfl T4 ?_; intro w5 hR4 hT4 hg5)
    | (go_at_call 26; (with_reducible refine (FA _ ?_).mono ?_); (exact World.grownBy_alloc w _ none); rintro e w2 ⟨rfl, hg2⟩; have hg3 := grown_tr (World.grownBy_alloc w z37 none) hg2; obtain ⟨c02, R2⟩ := RW.out w2 hg3; have x0 := R2 0 _ rfl; have x1 := R2 1 _ rfl; have x2 := R2 2 _ rfl; have x3 := R2 3 _ rfl; simp only [Nat.add_zero] at x0)
    | (go_at_call 27; (with_reducible refine (IC _ hg3).mono ?_); rintro e w3 ⟨rfl, hg4⟩; have T3 := T2.out w3 (grown_tr hg2 hg4))
    | (go_at_call 28; (with_reducible refine (TK _ (grown_tr hg3 hg4)).mono ?_); rintro e w4 ⟨rfl, hL⟩; have T4 : w4.there w.heap.size 0 4 := (by obtain ⟨F', _, _, C⟩ := hL; exact there_chg T3 C (fun e => by have := FH.out _ e; omega))))
  refine bodyPost_ret (res_pk2 (p := 4) (u := 5) (x := p) rfl rfl hR4) rfl ⟨rfl, ?_⟩
  have hs3 : w.heap.size < w3.heap.size := by have := hg4.size; have := hg2.size; simp at this; omega
  exact Left.wrote (w1 := w3) hL (grown_tr hg3 hg4) (Nat.le_refl _) hs3 FH.out hg5
theorem deliver_any (b : Nat) (s : Ms) (F : Nat → Prop) (id : Int) (w : World) (h : Me w b s F) :
    Calls Try.prog 11 #[.pointer (some ⟨b, 0, none⟩), .int .i64 id] w fun e w' => e = .returned (.tuple #[pv (dlvP s id), .bool (dlv s id)]) ∧ Left w w' b (dlvS s id) F := by
  have h' := h
  obtain ⟨bm, v, h1, h2⟩ := h'
  cases hth : there s.l id with
  | false =>
    have e : dlv s id = false := by unfold dlv; rw [hth]; rfl
    unfold dlvP dlvS
    rw [e]
    exact (dlv_none b bm v s F id w h1 hth).mono fun e w' ⟨he, hg⟩ => ⟨he, Left.same h hg⟩
  | true =>
    obtain ⟨p, hp, he⟩ := there_at h1.ok.rise hth
    cases hc : isCut s.cs p.fm p.tt with
    | true =>
      have e : dlv s id = false := by unfold dlv; rw [hth, at_is hp, hc]; rfl
      unfold dlvP dlvS
      rw [e]
      exact (dlv_cut b bm v s F id p w h1 hth hp hc).mono fun e w' ⟨he, hg⟩ => ⟨he, Left.same h hg⟩
    | false =>
      have e : dlv s id = true := by unfold dlv; rw [hth, at_is hp, hc]; rfl
      unfold dlvP dlvS
      rw [e, if_pos rfl, if_pos rfl, at_is hp]
      exact dlv_ok b bm v s F id p w h1 h2 hth hp hc
set_option maxRecDepth 100000 in
set_option maxHeartbeats 1600000 in
theorem next_run (b bm : Nat) (v : Value) (s : Ms) (F : Nat → Prop) (w : World) (h1 : MeD w b bm v s) (h2 : ∀ k, F k ↔ (k = b ∨ k = bm ∨ v.ownBlock = some k)) :
    Calls Try.prog 13 #[.pointer (some ⟨b, 0, none⟩)] w fun e w' => (∃ i p, s.l[i]? = some p ∧ isCut s.cs p.fm p.tt = false ∧ (∀ (j : Nat) (q : Pk), j < i → s.l[j]? = some q → isCut s.cs q.fm q.tt = true) ∧ e = .returned (.tuple #[pv p, .bool true]) ∧ Left w w' b (outS s i) F) ∨ ((∀ (j : Nat) (q : Pk), s.l[j]? = some q → isCut s.cs q.fm q.tt = true) ∧ e = .returned (.tuple #[pv pk0, .bool false]) ∧ w.grownBy w' none) := by
  have H0 : Hid (Me w b s F) := ⟨bm, v, h1, h2⟩
  have FH : Hid (∀ k, F k → k < w.heap.size) := H0.out.lt
  have IC : Hid (∀ (p : Pk) (W : World), p ∈ s.l → w.grownBy W none → _) := fun p W hm g => isCut_any b bm v s p W (h1.grown g) (h1.i64 p hm).1 (h1.i64 p hm).2
  have T2 : Hid (∀ W, (w.alloc z37).grownBy W none → W.there w.heap.size 0 4) := fun W g => there_kept (there_new w _ _ rfl rfl) g (by simp) (by omega)
  have RX : Hid (∀ W, w.grownBy W none → eP.Rx W v s.l) := fun W g => h1.row.rx.grown g
  obtain ⟨ad, cp, hv⟩ := h1.row.rx.form
  have c0 := h1.c0
  have hl512 := h1.ok.len
  have hbl := h1.lt.1
  clear h1 h2
  subst hv
  obtain ⟨N, hN⟩ : ∃ N, s.l.length = N := ⟨_, rfl⟩
  rw [hN] at RX c0 hl512
  have NL : Hid (s.l.length = N) := hN
  clear hN
  go_enter Try.func13, Try.ntmps13
  go_wp2
  go_loopw [14] (fun s14 wr => ∃ j : Nat, j ≤ N ∧ s14 = Value.int .i64 (j : Int) ∧ Aside ((w.alloc z37).grownBy wr none) ∧ Aside (∀ (k : Nat) (q : Pk), k < j → s.l[k]? = some q → isCut s.cs q.fm q.tt = true)) (fun i _ => N - (intOf i).toNat)
  case atStart => exact ⟨0, Nat.zero_le _, rfl, grown_refl _ _, fun k q hk => absurd hk (Nat.not_lt_zero _)⟩
  case round =>
    obtain ⟨j, hj, rfl, G1, I⟩ := hrel
    by_cases hlt : j < N
    · obtain ⟨p, hp⟩ : ∃ p, s.l[j]? = some p := ⟨_, List.getElem?_eq_getElem (by rw [NL.out]; exact hlt)⟩
      have GW := grown_tr (World.grownBy_alloc w z37 none) G1.out
      obtain ⟨g, o, c, hv, hr⟩ := range_pk (RX.out wr GW) hp
      injection hv with hv1 hv2 hv3
      subst hv1
      have RG : Aside (wr.rangeAt g (o + j * 4) (eP.enc p)) := hr
      have ICp : ∀ W, w.grownBy W none → _ := fun W g => IC.out p W (List.mem_of_getElem? hp) g
      have TK : ∀ W, w.grownBy W none → _ := fun W g => take_any b s F j p W (H0.out.grown g) hp
      have HP : Aside (s.l[j]? = some p) := hp
      have GW : Aside (w.grownBy wr none) := GW
      clear hp hr hv2 hv3
      cases hc : isCut s.cs p.fm p.tt with
      | true =>
        rw [hc] at ICp
        have HC : Aside (isCut s.cs p.fm p.tt = true) := hc
        clear hc TK
        go_wp2_with (first
          | (refine load_pk g (o + j * 4) p rfl RG.out ?_)
          | (go_at_call 27; (with_reducible refine (ICp _ ?_).mono ?_); (exact grown_alloc GW.out _); rintro e w3 ⟨rfl, hg4⟩))
        go_roundw
        case rel =>
          refine ⟨j + 1, by omega, by go_num, grown_tr (grown_alloc G1.out _) hg4, fun k q hk hq => ?_⟩
          by_cases e : k = j
          · subst e
            rw [HP.out] at hq
            injection hq with hq
            rw [← hq]
            exact HC.out
          · exact I.out k q (by omega) hq
        case measure => simp [intOf]; omega
      | false =>
        rw [hc] at ICp
        have HC : Aside (isCut s.cs p.fm p.tt = false) := hc
        clear hc
        go_wp2_with (first
          | (refine load_pk g (o + j * 4) p rfl RG.out ?_)
          | (refine store_pk w.heap.size p rfl rfl T4 ?_; intro w5 hR4 hT4 hg5)
          | (go_at_call 27; (with_reducible refine (ICp _ ?_).mono ?_); (exact grown_alloc GW.out _); rintro e w3 ⟨rfl, hg4⟩; have T3 := T2.out w3 (grown_tr (grown_alloc G1.out _) hg4); have hg3 := grown_tr (grown_alloc GW.out _) hg4)
          | (go_at_call 28; (with_reducible refine (TK _ hg3).mono ?_); rintro e w4 ⟨rfl, hL⟩; have T4 : w4.there w.heap.size 0 4 := (by obtain ⟨F', _, _, C⟩ := hL; exact there_chg T3 C (fun e => by have := FH.out _ e; omega))))
        refine bodyPost_ret (res_pk2 (p := 2) (u := 3) (x := p) rfl rfl hR4) rfl (.inl ⟨j, p, HP.out, HC.out, I.out, rfl, ?_⟩)
        have hs3 : w.heap.size < w3.heap.size := by have := hg4.size; have := G1.out.size; simp at *; omega
        exact Left.wrote (w1 := w3) hL hg3 (Nat.le_refl _) hs3 FH.out hg5
    · have T3 := T2.out wr G1.out
      have HA : Aside (∀ (k : Nat) (q : Pk), s.l[k]? = some q → isCut s.cs q.fm q.tt = true) := fun k q hq => I.out k q (by have := (List.getElem?_eq_some_iff.1 hq).1; rw [NL.out] at this; omega) hq
      go_wp2_with (refine store_pk w.heap.size pk0 rfl rfl T3 ?_; intro w5 hR4 hT4 hg5)
      refine bodyPost_ret (res_pk2 (p := 2) (u := 3) (x := pk0) rfl rfl hR4) rfl (.inr ⟨HA.out, rfl, ?_⟩)
      exact grown_more (grown_tr (World.grownBy_alloc w z37 none) G1.out) hg5 fun k e => .inr (by injection e with e; omega)
theorem next_any (b : Nat) (s : Ms) (F : Nat → Prop) (w : World) (h : Me w b s F) :
    Calls Try.prog 13 #[.pointer (some ⟨b, 0, none⟩)] w fun e w' => e = .returned (.tuple #[pv (nxtP s), .bool (nxtB s)]) ∧ Left w w' b (nxtS s) F := by
  have h' := h
  obtain ⟨bm, v, h1, h2⟩ := h'
  refine (next_run b bm v s F w h1 h2).mono ?_
  rintro e w' (⟨i, p, hp, hc, hb, rfl, hL⟩ | ⟨hb, rfl, hg⟩)
  · have hn : nxt s = some i := by
      unfold nxt
      rw [List.findIdx?_eq_some_iff_getElem]
      have hi := (List.getElem?_eq_some_iff.1 hp)
      refine ⟨hi.1, by rw [hi.2, hc]; rfl, fun j hj => ?_⟩
      have hi1 := hi.1
      have hjl : j < s.l.length := by omega
      have := hb j (s.l[j]'hjl) hj (List.getElem?_eq_getElem hjl)
      simp [this]
    unfold nxtP nxtB nxtS
    rw [hn]
    exact ⟨by simp only [at_is hp]; rfl, hL⟩
  · have hn : nxt s = none := by
      unfold nxt
      rw [List.findIdx?_eq_none_iff]
      intro q hq
      obtain ⟨j, hj⟩ := List.getElem?_of_mem hq
      rw [hb j q hj]
      rfl
    unfold nxtP nxtB nxtS
    rw [hn]
    exact ⟨rfl, Left.same h hg⟩
end Go.Proofs.Ytffbaomaiohdiaa
