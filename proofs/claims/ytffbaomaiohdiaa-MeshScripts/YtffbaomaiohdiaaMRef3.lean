/- The reference's mesh: Send whatever it is asked, Cut, Join, out. -/
import Derived.Test.YtffbaomaiohdiaaMRef2
namespace Go.Proofs.Ytffbaomaiohdiaa
open Go.RowKit Msh
set_option linter.unusedVariables false
set_option maxRecDepth 10000

/-- 'v[k:]'. -/
theorem Elm.from_ {α : Type} {E : Elm α} {w : World} {base : Nat} {v : Value} {L : List α} (h : E.Own w base v L) {k : Nat} (hk : k ≤ L.length) :
    ∃ ad c, (∀ W, (Instr.slice E.sl v (some (.int .i64 (k : Int))) none none).run Try.prog W = .ok (.slice ad (L.length - k) c) W) ∧ E.Rx w (.slice ad (L.length - k) c) (L.drop k) := by
  have ht : Try.prog.underlying E.sl = some (.slice (Try.prog.elem E.sl)) := by rw [E.he]; exact E.hu
  have run : ∀ a n c W, k ≤ n → (Instr.slice E.sl (.slice a n c) (some (.int .i64 (k : Int))) none none).run Try.prog W = .ok (sliced a k n c E.size) W := fun a n c W hn => by
    rw [run_slice_l W E.sl a n c ht .i64 (k : Int) (by omega) (by omega), E.he, E.so W]
    show Result.ok (sliced a (k : Int).toNat n c E.size) W = _
    rw [Int.toNat_natCast]
  have hlen : (L.drop k).length = L.length - k := List.length_drop
  rcases h.2 with ⟨e, h0⟩ | ⟨g, cap, cur, e, hg, hh, h1, h2, h3, h4⟩
  · have hL : L = [] := List.eq_nil_of_length_eq_zero h0
    subst hL
    have hk0 : k = 0 := by simpa using hk
    subst hk0
    refine ⟨none, 0, fun W => ?_, .inl ⟨rfl, rfl⟩⟩
    rw [e, run none 0 0 W (by omega)]
    rfl
  · by_cases hc : cap = k
    · have hkl : k = L.length := by omega
      refine ⟨some ⟨g, 0, none⟩, cap - k, fun W => ?_, .inr ⟨⟨g, 0, none⟩, cap - k, by rw [hlen], .inl (List.drop_eq_nil_of_le (by omega)), fun t x hx => ?_⟩⟩
      · rw [e, run _ _ _ W hk]
        unfold sliced
        rw [if_pos hc]
      · rw [List.drop_eq_nil_of_le (by omega)] at hx
        simp [Elm.cells] at hx
    · refine ⟨some ⟨g, k * E.size, none⟩, cap - k, fun W => ?_, .inr ⟨⟨g, k * E.size, none⟩, cap - k, by rw [hlen], .inr rfl, fun t x hx => ?_⟩⟩
      · rw [e, run _ _ _ W hk]
        unfold sliced
        rw [if_neg hc]
        show Result.ok (Value.slice (some ((⟨g, 0, none⟩ : Addr).add (k * E.size))) _ _) W = _
        rw [Addr.add_lit, Nat.zero_add]
      · rw [Elm.cells_drop, List.getElem?_drop] at hx
        have := World.ownsRow.cells h (g := g) (by rw [e]; rfl) _ x hx
        rw [Addr.add_lit] at this ⊢
        rw [Nat.zero_add] at this
        exact this
set_option maxRecDepth 100000 in
theorem rsend_any (q : Nat) (s : Ms) (F : Nat → Prop) (fm tt : Int) (body : ByteArray) (w : World) (h : Rm w q s F) (hn : s.n ≤ 1000000) (hb : body.size ≤ 140737488351232) :
    Calls Try.prog 10 #[.pointer (some ⟨q, 0, none⟩), .int .i64 fm, .int .i64 tt, .string body] w fun e w' => e = .returned (.tuple #[.int .i64 (sendI s body), .int .i64 (sendE s body)]) ∧ RLeft w w' q (sendS s fm tt body) F := by
  have SM : Hid (RLeft w w q s F) := RLeft.same h (grown_refl _ _)
  by_cases hl : 65536 < body.size
  · unfold sendI sendE sendS
    rw [if_pos hl, if_pos hl, if_pos hl]
    clear h
    go_enter Try.func10, Try.ntmps10
    go_wp2
    go_ret2
    exact ⟨rfl, SM.out⟩
  · unfold sendI sendE sendS
    rw [if_neg hl, if_neg hl, if_neg hl]
    unfold entI entE entS
    by_cases h5 : s.l.length = 512
    · rw [if_pos h5, if_pos h5, if_pos h5]
      obtain ⟨vl, vc, h1, h2⟩ := h
      obtain ⟨ad, cp, hv⟩ := h1.row.rx.form
      rw [h5] at hv
      subst hv
      have c0 := h1.c0
      clear h1 h2
      go_enter Try.func10, Try.ntmps10
      go_wp2
      go_ret2
      exact ⟨rfl, SM.out⟩
    · rw [if_neg h5, if_neg h5, if_neg h5]
      exact rsend_ok q s F fm tt body w h h5 hn (by omega)
set_option maxRecDepth 100000 in
set_option maxHeartbeats 800000 in
theorem rcut_any (q : Nat) (s : Ms) (F : Nat → Prop) (x y : Int) (w : World) (h : Rm w q s F) (hl : s.cs.length ≤ 1000000) :
    Calls Try.prog 20 #[.pointer (some ⟨q, 0, none⟩), .int .i64 x, .int .i64 y] w fun e w' => e = .returned (.tuple #[]) ∧ RLeft w w' q ⟨s.l, s.n, cutL s.cs x y⟩ F := by
  have h' := h
  obtain ⟨vl, vc, h1, h2⟩ := h
  have IC := rIsCut_any q vl vc s x y w h1 hl
  unfold cutL
  cases hc : isCut s.cs x y with
  | true =>
    rw [hc] at IC
    rw [if_pos rfl]
    have SM : Hid (Rm w q s F) := h'
    clear h1 h'
    go_enter Try.func20, Try.ntmps20
    go_wp2_with (go_at_call 30; (with_reducible refine IC.mono ?_); rintro e w2 ⟨rfl, hg2⟩)
    go_end0
    exact ⟨rfl, RLeft.same SM.out hg2⟩
  | false =>
    rw [hc] at IC
    rw [if_neg (by simp)]
    obtain ⟨ad, cp, hv⟩ := h1.cuts.rx.form
    subst hv
    obtain ⟨N, hN⟩ : ∃ N, s.cs.length = N := ⟨_, rfl⟩
    rw [hN] at h1 h2
    have H1 : Hid (RmD w q vl (.slice ad N cp) s) := h1
    have LN : Hid (s.cs.length ≤ 1000000) := hl
    have hql := h1.lt.1
    clear h1 h' hN
    have B2 : Hid (∀ w2, w.grownBy w2 none → w2.cell? ⟨q, 2, none⟩ = some (.slice ad N cp) ∧ q < w2.heap.size ∧ (∀ o, eC.Own (w2.alloc o) 0 (.slice ad N cp) s.cs) ∧ eC.Rx (w2.alloc (.cells #[.int .i64 x, .int .i64 y] 65)) (.slice (some ⟨w2.heap.size, 0, none⟩) 1 1) [(x, y)]) := fun w2 g => by
      have M := H1.out.grown g
      refine ⟨M.c2, M.lt.1, fun o => M.cuts.grown (World.grownBy_alloc _ _ none), Elm.rx_one (E := eC) fun j u hu => new_at w2 rfl ?_⟩
      rw [← hu]
      simp [eC]
    have B3 : Hid (∀ o w2 w3, w.grownBy w2 none → (w2.alloc o).grownBy w3 (Value.slice ad N cp).ownBlock → w3.cell? ⟨q, 2, none⟩ = some (.slice ad N cp) ∧ w3.frozen? ⟨q, 2, none⟩ = false ∧ ∀ (a2 : Option Addr) (n2 c2 : Nat), eC.Own w3 0 (.slice a2 n2 c2) (s.cs ++ [(x, y)]) → ((Value.slice a2 n2 c2).ownBlock = (Value.slice ad N cp).ownBlock ∨ (Value.slice a2 n2 c2).ownBlock = some (w2.alloc o).heap.size) → RLeft w (w3.setCell ⟨q, 2, none⟩ (.slice a2 n2 c2)) q ⟨s.l, s.n, s.cs ++ [(x, y)]⟩ F) := fun o w2 w3 g2 g3 => by
      have M := H1.out.grown (grown_alloc g2 o)
      have nb : some q ≠ (Value.slice ad N cp).ownBlock := fun e => H1.out.cq q e.symm rfl
      have F3 : ∀ i, w3.frozen? ⟨q, i, none⟩ = false := fun i => (World.frozen?_of_block (a := ⟨q, i, none⟩) (g3.block q M.lt.1 nb)).trans (M.fr i)
      have k2 := g3.cell M.c2 nb
      refine ⟨k2, F3 2, fun a2 n2 c2 hO hl2 => ?_⟩
      have G4 : w3.grownBy (w3.setCell ⟨q, 2, none⟩ (.slice a2 n2 c2)) (some q) := grown_set _ _ _
      have hs : w.heap.size ≤ (w2.alloc o).heap.size := (grown_alloc g2 o).size
      have nv : ∀ k, (Value.slice a2 n2 c2).ownBlock = some k → (Value.slice ad N cp).ownBlock = some k ∨ w.heap.size ≤ k := fun k hk => by
        rcases hl2 with e | e
        · exact .inl (by rw [← e]; exact hk)
        · rw [hk] at e; injection e with e; exact .inr (by omega)
      have C3 : Chg (fun k => k = q ∨ (Value.slice ad N cp).ownBlock = some k) w w3 := (Chg.of (grown_alloc g2 o) (by simp)).grown g3 fun k e => .inl (.inr e)
      have C4 := C3.grown G4 fun k e => .inl (.inl (by injection e with e; exact e.symm))
      refine H1.out.cutsTurn h2 C4 (by rw [set_other (by simp)]; exact g3.cell M.c0 nb) (by rw [set_other (by simp)]; exact g3.cell M.c1 nb) (set_same k2) (fun i => by rw [World.frozen?_setCell]; exact F3 i) (hO.but G4 fun k hk e => ?_) nv
      injection e with e
      subst e
      rcases nv q hk with e | e
      · exact H1.out.cq q e rfl
      · omega
    go_enter Try.func20, Try.ntmps20
    go_wp2_with (first
      | (go_at_call 30; (with_reducible refine IC.mono ?_); rintro e w2 ⟨rfl, hg2⟩; obtain ⟨cc2, hq2, OW, RX⟩ := B2.out w2 hg2; have OW : Hid _ := OW; have RX : Hid _ := RX)
      | (refine Elm.wpList_append (E := eC) rfl (.tmp 15) (.tmp 19) rfl 0 (.slice ad N cp) s.cs rfl (OW.out _) _ [(x, y)] rfl RX.out (by have := LN.out; simp; omega) (by have := LN.out; simp [eC]; omega) (Nat.zero_le _) ?_; intro a3 n3 c3 w3 hO3 hg3 hl3; obtain ⟨k2, kf2, FIN⟩ := B3.out _ _ _ hg2 hg3))
    go_end0
    exact ⟨rfl, FIN _ _ _ hO3 hl3⟩
end Go.Proofs.Ytffbaomaiohdiaa
