/- The reference's mesh: Drop, Deliver, Next. -/
import Derived.Test.YtffbaomaiohdiaaMRef4
namespace Go.Proofs.Ytffbaomaiohdiaa
open Go.RowKit Msh
set_option linter.unusedVariables false
set_option maxRecDepth 10000

set_option maxRecDepth 100000 in
theorem rdrop_any (q : Nat) (s : Ms) (F : Nat → Prop) (id : Int) (w : World) (h : Rm w q s F) :
    Calls Try.prog 16 #[.pointer (some ⟨q, 0, none⟩), .int .i64 id] w fun e w' => e = .returned (.bool (there s.l id)) ∧ RLeft w w' q (dropS s id) F := by
  have H0 : Hid (Rm w q s F) := h
  obtain ⟨vl, vc, h1, h2⟩ := h
  have FI := rFind_any q vl vc s id w h1
  unfold dropS
  unfold fnd at FI
  cases hth : there s.l id with
  | false =>
    rw [hth] at FI
    simp only [Bool.false_eq_true, if_false] at FI ⊢
    clear h1
    go_enter Try.func16, Try.ntmps16
    go_wp2_with (go_at_call 29; (with_reducible refine FI.mono ?_); rintro e w2 ⟨rfl, e2⟩; have e2' := e2.symm; clear e2; subst e2')
    go_ret
    exact ⟨rfl, RLeft.same H0.out (grown_refl _ _)⟩
  | true =>
    rw [hth] at FI
    simp only [if_true] at FI ⊢
    obtain ⟨p, hp, he⟩ := there_at h1.ok.rise hth
    have OU := rout_any q s F (pos s.l id) p w H0.out hp
    generalize pos s.l id = i at *
    clear h1 hp he hth
    go_enter Try.func16, Try.ntmps16
    go_wp2_with (first
      | (go_at_call 29; (with_reducible refine FI.mono ?_); rintro e w2 ⟨rfl, e2⟩; have e2' := e2.symm; clear e2; subst e2')
      | (go_at_call 31; (with_reducible refine OU.mono ?_); rintro e w3 ⟨rfl, hL⟩))
    go_ret
    exact ⟨rfl, hL⟩
set_option maxRecDepth 100000 in
set_option maxHeartbeats 800000 in
theorem rdlv_none (q : Nat) (vl vc : Value) (s : Ms) (id : Int) (w : World) (h1 : RmD w q vl vc s) (hth : there s.l id = false) :
    Calls Try.prog 12 #[.pointer (some ⟨q, 0, none⟩), .int .i64 id] w fun e w' => e = .returned (.tuple #[pv pk0, .bool false]) ∧ w.grownBy w' none := by
  have FA := fun W g => rFind_any q vl vc s id W (h1.grown g)
  unfold fnd at FA
  rw [hth] at FA
  simp only [Bool.false_eq_true, if_false] at FA
  have T2 : Hid ((w.alloc z37).drew.there w.heap.size 0 4) := there_kept (there_new w _ _ rfl rfl) (grown_drew (grown_refl _ none)) (by simp) (by omega)
  clear h1 hth
  go_enter Try.func12, Try.ntmps12
  go_upto_region 2 with (go_at_call 29; (with_reducible refine (FA _ ?_).mono ?_); (exact World.grownBy_alloc w _ none); rintro e w2 ⟨rfl, e2⟩; have e2' := e2.symm; clear e2; subst e2')
  go_quiet (fail)
  go_wp2_with (refine store_pk w.heap.size pk0 rfl rfl T2.out ?_; intro w4 hR4 hT4 hg4)
  refine bodyPost_ret (res_pk2 (p := 4) (u := 5) (x := pk0) rfl rfl hR4) rfl ⟨rfl, ?_⟩
  exact grown_more (grown_drewN (World.grownBy_alloc w _ none) _) hg4 fun k e => .inr (by injection e with e; omega)
/-- The way into Deliver where the packet is there. -/
theorem rdlv_pre {q : Nat} {vl vc : Value} {s : Ms} {id : Int} {w : World} (h1 : RmD w q vl vc s) {i : Nat} {p : Pk} (hp : s.l[i]? = some p) :
    ∃ g o c, vl = .slice (some ⟨g, o, none⟩) s.l.length c ∧ ∀ W, w.grownBy W none → W.cell? ⟨q, 0, none⟩ = some vl ∧ W.cell? ⟨g, o + i * 4 + 1, none⟩ = some (.int .i64 p.fm) ∧ W.cell? ⟨g, o + i * 4 + 2, none⟩ = some (.int .i64 p.tt) := by
  obtain ⟨g, o, c, hv, hr⟩ := range_pk h1.row.rx hp
  exact ⟨g, o, c, hv, fun W hg => ⟨hg.cell h1.c0 (by simp), range_kept hr hg (by simp) 1 _ rfl, range_kept hr hg (by simp) 2 _ rfl⟩⟩
set_option maxRecDepth 100000 in
set_option maxHeartbeats 1600000 in
theorem rdlv_cut (q : Nat) (vl vc : Value) (s : Ms) (id : Int) (p : Pk) (w : World) (h1 : RmD w q vl vc s) (hcl : s.cs.length ≤ 1000000) (hth : there s.l id = true) (hp : s.l[pos s.l id]? = some p) (hc : isCut s.cs p.fm p.tt = true) :
    Calls Try.prog 12 #[.pointer (some ⟨q, 0, none⟩), .int .i64 id] w fun e w' => e = .returned (.tuple #[pv pk0, .bool false]) ∧ w.grownBy w' none := by
  have FA := fun W g => rFind_any q vl vc s id W (h1.grown g)
  unfold fnd at FA
  rw [hth] at FA
  simp only [if_true] at FA
  have IC := fun W g => rIsCut_any q vl vc s p.fm p.tt W (h1.grown g) hcl
  rw [hc] at IC
  have T2 : Hid (∀ W, (w.alloc z37).grownBy W none → W.there w.heap.size 0 4) := fun W g => there_kept (there_new w _ _ rfl rfl) g (by simp) (by omega)
  have hil := (List.getElem?_eq_some_iff.1 hp).1
  have hl512 := h1.ok.len
  obtain ⟨g, o, c, hv, hRW⟩ := rdlv_pre (id := id) h1 hp
  subst hv
  generalize s.l.length = N at *
  generalize pos s.l id = i at *
  have RW : Hid (∀ W, (w.alloc z37).grownBy W none → (w.alloc z37).grownBy W none ∧ W.cell? ⟨q, 0, none⟩ = some (.slice (some ⟨g, o, none⟩) N c) ∧ W.cell? ⟨g, o + i * 4 + 1, none⟩ = some (.int .i64 p.fm) ∧ W.cell? ⟨g, o + i * 4 + 2, none⟩ = some (.int .i64 p.tt)) := fun W hg => ⟨hg, hRW W (grown_tr (World.grownBy_alloc w _ none) hg)⟩
  have IC2 : ∀ W, (w.alloc z37).grownBy W none → _ := fun W g => IC W (grown_tr (World.grownBy_alloc w _ none) g)
  clear h1 hth hp hc hRW IC
  go_enter Try.func12, Try.ntmps12
  go_upto_region 2 with (go_at_call 29; (with_reducible refine (FA _ ?_).mono ?_); (exact World.grownBy_alloc w _ none); rintro e w2 ⟨rfl, e2⟩; have e2' := e2.symm; clear e2; subst e2')
  clear FA
  generalize hwz : w.alloc z37 = wz at *
  have GZ : Hid (w.grownBy wz none) := by show w.grownBy wz none; rw [← hwz]; exact World.grownBy_alloc w _ none
  clear hwz
  go_region_held3 (fun W => wz.grownBy W none ∧ W.cell? ⟨q, 0, none⟩ = some (.slice (some ⟨g, o, none⟩) N c) ∧ W.cell? ⟨g, o + i * 4 + 1, none⟩ = some (.int .i64 p.fm) ∧ W.cell? ⟨g, o + i * 4 + 2, none⟩ = some (.int .i64 p.tt))
    (first | (exact RW.out _ (grown_drew (grown_refl _ none))) | (exact RW.out _ hg3))
    (first | (go_at_call 30; (with_reducible refine (IC2 _ ?_).mono ?_); (exact grown_drew (grown_refl _ none)); rintro e w3 ⟨rfl, hg⟩; have hg3 : wz.grownBy w3 none := grown_tr (grown_drew (grown_refl _ none)) hg; have T3 := T2.out w3 hg3))
  all_goals
    go_wp2_with (refine store_pk w.heap.size pk0 rfl rfl T3 ?_; intro w4 hR4 hT4 hg4)
    refine bodyPost_ret (res_pk2 (p := 4) (u := 5) (x := pk0) rfl rfl hR4) rfl ⟨rfl, ?_⟩
    exact grown_more (grown_tr GZ.out hg3) hg4 fun k e => .inr (by injection e with e; omega)
set_option maxRecDepth 100000 in
set_option maxHeartbeats 1600000 in
theorem rdlv_ok (q : Nat) (vl vc : Value) (s : Ms) (F : Nat → Prop) (id : Int) (p : Pk) (w : World) (h1 : RmD w q vl vc s) (h2 : ∀ k, F k ↔ (k = q ∨ vl.ownBlock = some k ∨ vc.ownBlock = some k)) (hcl : s.cs.length ≤ 1000000) (hth : there s.l id = true) (hp : s.l[pos s.l id]? = some p) (hc : isCut s.cs p.fm p.tt = false) :
    Calls Try.prog 12 #[.pointer (some ⟨q, 0, none⟩), .int .i64 id] w fun e w' => e = .returned (.tuple #[pv p, .bool true]) ∧ RLeft w w' q (outS s (pos s.l id)) F := by
  have H0 : Rm w q s F := ⟨vl, vc, h1, h2⟩
  have FH : Hid (∀ k, F k → k < w.heap.size) := H0.lt
  have FA := fun W g => rFind_any q vl vc s id W (h1.grown g)
  unfold fnd at FA
  rw [hth] at FA
  simp only [if_true] at FA
  have IC := fun W g => rIsCut_any q vl vc s p.fm p.tt W (h1.grown g) hcl
  rw [hc] at IC
  have OU := fun W g => rout_any q s F (pos s.l id) p W (H0.grown g) hp
  have T2 : Hid (∀ W, (w.alloc z37).grownBy W none → W.there w.heap.size 0 4) := fun W g => there_kept (there_new w _ _ rfl rfl) g (by simp) (by omega)
  have hil := (List.getElem?_eq_some_iff.1 hp).1
  have hl512 := h1.ok.len
  obtain ⟨g, o, c, hv, hRW⟩ := rdlv_pre (id := id) h1 hp
  subst hv
  generalize s.l.length = N at *
  generalize pos s.l id = i at *
  have RW : Hid (∀ W, (w.alloc z37).grownBy W none → (w.alloc z37).grownBy W none ∧ W.cell? ⟨q, 0, none⟩ = some (.slice (some ⟨g, o, none⟩) N c) ∧ W.cell? ⟨g, o + i * 4 + 1, none⟩ = some (.int .i64 p.fm) ∧ W.cell? ⟨g, o + i * 4 + 2, none⟩ = some (.int .i64 p.tt)) := fun W hg => ⟨hg, hRW W (grown_tr (World.grownBy_alloc w _ none) hg)⟩
  have IC2 : ∀ W, (w.alloc z37).grownBy W none → _ := fun W g => IC W (grown_tr (World.grownBy_alloc w _ none) g)
  have OU2 : ∀ W, (w.alloc z37).grownBy W none → _ := fun W g => OU W (grown_tr (World.grownBy_alloc w _ none) g)
  clear h1 hth hp hc hRW IC OU H0 h2
  go_enter Try.func12, Try.ntmps12
  go_upto_region 2 with (go_at_call 29; (with_reducible refine (FA _ ?_).mono ?_); (exact World.grownBy_alloc w _ none); rintro e w2 ⟨rfl, e2⟩; have e2' := e2.symm; clear e2; subst e2')
  clear FA
  have hzs : Hid (w.heap.size < (w.alloc z37).heap.size) := by show _ < _; simp
  generalize hwz : w.alloc z37 = wz at *
  have GZ : Hid (w.grownBy wz none) := by show w.grownBy wz none; rw [← hwz]; exact World.grownBy_alloc w _ none
  clear hwz
  go_region_held3 (fun W => wz.grownBy W none ∧ W.cell? ⟨q, 0, none⟩ = some (.slice (some ⟨g, o, none⟩) N c) ∧ W.cell? ⟨g, o + i * 4 + 1, none⟩ = some (.int .i64 p.fm) ∧ W.cell? ⟨g, o + i * 4 + 2, none⟩ = some (.int .i64 p.tt))
    (first | (exact RW.out _ (grown_drew (grown_refl _ none))) | (exact RW.out _ hg3))
    (first | (go_at_call 30; (with_reducible refine (IC2 _ ?_).mono ?_); (exact grown_drew (grown_refl _ none)); rintro e w3 ⟨rfl, hg⟩; have hg3 : wz.grownBy w3 none := grown_tr (grown_drew (grown_refl _ none)) hg; have T3 := T2.out w3 hg3))
  all_goals
    go_wp2_with (first
      | (refine store_pk w.heap.size p rfl rfl T4 ?_; intro w5 hR4 hT4 hg5)
      | (go_at_call 31; (with_reducible refine (OU2 _ hg3).mono ?_); rintro e w4 ⟨rfl, hL⟩; have T4 : w4.there w.heap.size 0 4 := (by obtain ⟨F', _, _, C⟩ := hL; exact there_chg T3 C (fun e => by have := FH.out _ e; omega))))
    refine bodyPost_ret (res_pk2 (p := 4) (u := 5) (x := p) rfl rfl hR4) rfl ⟨rfl, ?_⟩
    exact RLeft.wrote (w1 := w3) hL (grown_tr GZ.out hg3) (Nat.le_refl _) (by have := hzs.out; have := hg3.size; omega) FH.out hg5
theorem rdeliver_any (q : Nat) (s : Ms) (F : Nat → Prop) (id : Int) (w : World) (h : Rm w q s F) (hcl : s.cs.length ≤ 1000000) :
    Calls Try.prog 12 #[.pointer (some ⟨q, 0, none⟩), .int .i64 id] w fun e w' => e = .returned (.tuple #[pv (dlvP s id), .bool (dlv s id)]) ∧ RLeft w w' q (dlvS s id) F := by
  have h' := h
  obtain ⟨vl, vc, h1, h2⟩ := h'
  cases hth : there s.l id with
  | false =>
    have e : dlv s id = false := by unfold dlv; rw [hth]; rfl
    unfold dlvP dlvS
    rw [e]
    exact (rdlv_none q vl vc s id w h1 hth).mono fun e w' ⟨he, hg⟩ => ⟨he, RLeft.same h hg⟩
  | true =>
    obtain ⟨p, hp, he⟩ := there_at h1.ok.rise hth
    cases hc : isCut s.cs p.fm p.tt with
    | true =>
      have e : dlv s id = false := by unfold dlv; rw [hth, at_is hp, hc]; rfl
      unfold dlvP dlvS
      rw [e]
      exact (rdlv_cut q vl vc s id p w h1 hcl hth hp hc).mono fun e w' ⟨he, hg⟩ => ⟨he, RLeft.same h hg⟩
    | false =>
      have e : dlv s id = true := by unfold dlv; rw [hth, at_is hp, hc]; rfl
      unfold dlvP dlvS
      rw [e, if_pos rfl, if_pos rfl, at_is hp]
      exact rdlv_ok q vl vc s F id p w h1 h2 hcl hth hp hc
end Go.Proofs.Ytffbaomaiohdiaa
