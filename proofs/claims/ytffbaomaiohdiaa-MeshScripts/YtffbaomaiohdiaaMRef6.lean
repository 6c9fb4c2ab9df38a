/- The reference's mesh: Next. -/
import Derived.Test.YtffbaomaiohdiaaMRef5
namespace Go.Proofs.Ytffbaomaiohdiaa
open Go.RowKit Msh
set_option linter.unusedVariables false
set_option maxRecDepth 10000

set_option maxRecDepth 100000 in
set_option maxHeartbeats 1600000 in
theorem rnext_run (q : Nat) (vl vc : Value) (s : Ms) (F : Nat → Prop) (w : World) (h1 : RmD w q vl vc s) (h2 : ∀ k, F k ↔ (k = q ∨ vl.ownBlock = some k ∨ vc.ownBlock = some k)) (hcl : s.cs.length ≤ 1000000) :
    Calls Try.prog 14 #[.pointer (some ⟨q, 0, none⟩)] w fun e w' => (∃ i p, s.l[i]? = some p ∧ isCut s.cs p.fm p.tt = false ∧ (∀ (j : Nat) (q : Pk), j < i → s.l[j]? = some q → isCut s.cs q.fm q.tt = true) ∧ e = .returned (.tuple #[pv p, .bool true]) ∧ RLeft w w' q (outS s i) F) ∨ ((∀ (j : Nat) (q : Pk), s.l[j]? = some q → isCut s.cs q.fm q.tt = true) ∧ e = .returned (.tuple #[pv pk0, .bool false]) ∧ w.grownBy w' none) := by
  have H0 : Hid (Rm w q s F) := ⟨vl, vc, h1, h2⟩
  have FH : Hid (∀ k, F k → k < w.heap.size) := H0.out.lt
  have H1 : Hid (RmD w q vl vc s) := h1
  have HCL : Hid (s.cs.length ≤ 1000000) := hcl
  have T2 : Hid (∀ W, (w.alloc z37).grownBy W none → W.there w.heap.size 0 4) := fun W g => there_kept (there_new w _ _ rfl rfl) g (by simp) (by omega)
  obtain ⟨ad, cp, hv⟩ := h1.row.rx.form
  have hl512 := h1.ok.len
  clear h1 h2 hcl
  subst hv
  obtain ⟨N, hN⟩ : ∃ N, s.l.length = N := ⟨_, rfl⟩
  rw [hN] at H1 hl512
  have NL : Hid (s.l.length = N) := hN
  clear hN
  have HC : Hid (∀ W, (w.alloc z37).grownBy W none → W.cell? ⟨q, 0, none⟩ = some (.slice ad N cp)) := fun W g => (grown_tr (World.grownBy_alloc w _ none) g).cell H1.out.c0 (by simp)
  have cz := HC.out _ (grown_refl _ none)
  have hzs : Hid (w.heap.size < (w.alloc z37).heap.size) := by show _ < _; simp
  go_enter Try.func14, Try.ntmps14
  go_wp2_with fail
  generalize hwz : w.alloc z37 = wz at *
  have GZ : Hid (w.grownBy wz none) := by show w.grownBy wz none; rw [← hwz]; exact World.grownBy_alloc w _ none
  clear hwz
  go_loopw [4] (fun s4 wr => ∃ j : Nat, j ≤ N ∧ s4 = Value.int .i64 (j : Int) ∧ Hid (wz.grownBy wr none) ∧ Hid (∀ (k : Nat) (q : Pk), k < j → s.l[k]? = some q → isCut s.cs q.fm q.tt = true)) (fun i _ => N - (intOf i).toNat)
  case atStart => exact ⟨0, Nat.zero_le _, rfl, grown_refl _ _, fun k q hk => absurd hk (Nat.not_lt_zero _)⟩
  case round =>
    obtain ⟨j, hj, rfl, G1, I⟩ := hrel
    have cr := HC.out wr G1.out
    by_cases hlt : j < N
    · obtain ⟨p, hp⟩ : ∃ p, s.l[j]? = some p := ⟨_, List.getElem?_eq_getElem (by rw [NL.out]; exact hlt)⟩
      have GW := grown_tr GZ.out G1.out
      obtain ⟨g, o, c, hv, hRW⟩ := rdlv_pre (id := 0) H1.out hp
      injection hv with hv1 hv2 hv3
      subst hv1
      have RW : Hid (∀ W, wr.grownBy W none → wr.grownBy W none ∧ W.cell? ⟨q, 0, none⟩ = some (.slice (some ⟨g, o, none⟩) N cp) ∧ W.cell? ⟨g, o + j * 4 + 1, none⟩ = some (.int .i64 p.fm) ∧ W.cell? ⟨g, o + j * 4 + 2, none⟩ = some (.int .i64 p.tt)) := fun W hg => ⟨hg, hRW W (grown_tr GW hg)⟩
      have IC : ∀ W, wr.grownBy W none → _ := fun W g => rIsCut_any q _ vc s p.fm p.tt W (H1.out.grown (grown_tr GW g)) HCL.out
      have OU : ∀ W, wr.grownBy W none → _ := fun W g => rout_any q s F j p W (H0.out.grown (grown_tr GW g)) hp
      have HP : Hid (s.l[j]? = some p) := hp
      have HGW : Hid (w.grownBy wr none) := GW
      clear hp hRW hv2 hv3 GW
      cases hc : isCut s.cs p.fm p.tt with
      | true =>
        rw [hc] at IC
        have HC' : Hid (isCut s.cs p.fm p.tt = true) := hc
        clear hc OU
        go_upto_region 4 with fail
        go_region_held3 (fun W => wr.grownBy W none ∧ W.cell? ⟨q, 0, none⟩ = some (.slice (some ⟨g, o, none⟩) N cp) ∧ W.cell? ⟨g, o + j * 4 + 1, none⟩ = some (.int .i64 p.fm) ∧ W.cell? ⟨g, o + j * 4 + 2, none⟩ = some (.int .i64 p.tt))
          (first | (exact RW.out _ (grown_drew (grown_refl _ none))) | (exact RW.out _ hg3))
          (first | (go_at_call 30; (with_reducible refine (IC _ ?_).mono ?_); (exact grown_drew (grown_refl _ none)); rintro e w3 ⟨rfl, hg⟩; have hg3 : wr.grownBy w3 none := grown_tr (grown_drew (grown_refl _ none)) hg))
        all_goals
          go_wp2_with fail
          go_roundw
          case rel =>
            refine ⟨j + 1, by omega, by go_num, grown_tr G1.out hg3, fun k q hk hq => ?_⟩
            by_cases e : k = j
            · subst e
              rw [HP.out] at hq
              injection hq with hq
              rw [← hq]
              exact HC'.out
            · exact I.out k q (by omega) hq
          case measure => simp [intOf]; omega
      | false =>
        rw [hc] at IC
        have HC' : Hid (isCut s.cs p.fm p.tt = false) := hc
        clear hc
        go_upto_region 4 with fail
        go_region_held3 (fun W => wr.grownBy W none ∧ W.cell? ⟨q, 0, none⟩ = some (.slice (some ⟨g, o, none⟩) N cp) ∧ W.cell? ⟨g, o + j * 4 + 1, none⟩ = some (.int .i64 p.fm) ∧ W.cell? ⟨g, o + j * 4 + 2, none⟩ = some (.int .i64 p.tt))
          (first | (exact RW.out _ (grown_drew (grown_refl _ none))) | (exact RW.out _ hg3))
          (first | (go_at_call 30; (with_reducible refine (IC _ ?_).mono ?_); (exact grown_drew (grown_refl _ none)); rintro e w3 ⟨rfl, hg⟩; have hg3 : wr.grownBy w3 none := grown_tr (grown_drew (grown_refl _ none)) hg; have T3 := T2.out w3 (grown_tr G1.out hg3)))
        all_goals
          go_wp2_with (first
            | (refine store_pk w.heap.size p rfl rfl T4 ?_; intro w5 hR4 hT4 hg5)
            | (go_at_call 31; (with_reducible refine (OU _ hg3).mono ?_); rintro e w4 ⟨rfl, hL⟩; have T4 : w4.there w.heap.size 0 4 := (by obtain ⟨F', _, _, C⟩ := hL; exact there_chg T3 C (fun e => by have := FH.out _ e; omega))))
          refine bodyPost_ret (res_pk2 (p := 2) (u := 3) (x := p) rfl rfl hR4) rfl (.inl ⟨j, p, HP.out, HC'.out, I.out, rfl, ?_⟩)
          exact RLeft.wrote (w1 := w3) hL (grown_tr HGW.out hg3) (Nat.le_refl _) (by have := hzs.out; have := G1.out.size; have := hg3.size; omega) FH.out hg5
    · have T3 := T2.out wr G1.out
      have HA : Hid (∀ (k : Nat) (q : Pk), s.l[k]? = some q → isCut s.cs q.fm q.tt = true) := fun k q hq => I.out k q (by have := (List.getElem?_eq_some_iff.1 hq).1; rw [NL.out] at this; omega) hq
      go_wp2_with (refine store_pk w.heap.size pk0 rfl rfl T3 ?_; intro w5 hR4 hT4 hg5)
      refine bodyPost_ret (res_pk2 (p := 2) (u := 3) (x := pk0) rfl rfl hR4) rfl (.inr ⟨HA.out, rfl, ?_⟩)
      exact grown_more (grown_tr GZ.out G1.out) hg5 fun k e => .inr (by injection e with e; omega)
theorem rnext_any (q : Nat) (s : Ms) (F : Nat → Prop) (w : World) (h : Rm w q s F) (hcl : s.cs.length ≤ 1000000) :
    Calls Try.prog 14 #[.pointer (some ⟨q, 0, none⟩)] w fun e w' => e = .returned (.tuple #[pv (nxtP s), .bool (nxtB s)]) ∧ RLeft w w' q (nxtS s) F := by
  have h' := h
  obtain ⟨vl, vc, h1, h2⟩ := h'
  refine (rnext_run q vl vc s F w h1 h2 hcl).mono ?_
  rintro e w' (⟨i, p, hp, hc, hb, rfl, hL⟩ | ⟨hb, rfl, hg⟩)
  · have hn : nxt s = some i := by
      unfold nxt
      rw [List.findIdx?_eq_some_iff_getElem]
      have hi := (List.getElem?_eq_some_iff.1 hp)
      refine ⟨hi.1, by rw [hi.2, hc]; rfl, fun j hj => ?_⟩
      have hi1 := hi.1
      have hjl : j < s.l.length := by omega
      have := hb j (s.l[j]'hjl) hj (List.getElem?_eq_getElem hjl)
      simp [this]
    unfold nxtP nxtB nxtS
    rw [hn]
    exact ⟨by simp only [at_is hp]; rfl, hL⟩
  · have hn : nxt s = none := by
      unfold nxt
      rw [List.findIdx?_eq_none_iff]
      intro q hq
      obtain ⟨j, hj⟩ := List.getElem?_of_mem hq
      rw [hb j q hj]
      rfl
    unfold nxtP nxtB nxtS
    rw [hn]
    exact ⟨rfl, RLeft.same h hg⟩
end Go.Proofs.Ytffbaomaiohdiaa
