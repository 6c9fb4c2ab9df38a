/- Send, Double, Drop, Deliver, Next, Flight: whatever they are asked. -/
import Derived.Test.YtffbaomaiohdiaaMEnter
namespace Go.Proofs.Ytffbaomaiohdiaa
namespace Msh
def pk0 : Pk := ⟨0, 0, 0, ⟨#[]⟩⟩
def at_ (l : List Pk) (i : Nat) : Pk := l.getD i pk0
def sendE (s : Ms) (body : ByteArray) : Int := if 65536 < body.size then 1 else entE s.l
def sendI (s : Ms) (body : ByteArray) : Int := if 65536 < body.size then 0 else entI s
def sendS (s : Ms) (fm tt : Int) (body : ByteArray) : Ms := if 65536 < body.size then s else entS s ⟨0, fm, tt, body⟩
def dblE (s : Ms) (id : Int) : Int := if there s.l id = true then entE s.l else 151
def dblI (s : Ms) (id : Int) : Int := if there s.l id = true then entI s else 0
def dblS (s : Ms) (id : Int) : Ms := if there s.l id = true then entS s (at_ s.l (pos s.l id)) else s
def dropS (s : Ms) (id : Int) : Ms := if there s.l id = true then outS s (pos s.l id) else s
def dlv (s : Ms) (id : Int) : Bool := there s.l id && !isCut s.cs (at_ s.l (pos s.l id)).fm (at_ s.l (pos s.l id)).tt
def dlvP (s : Ms) (id : Int) : Pk := if dlv s id = true then at_ s.l (pos s.l id) else pk0
def dlvS (s : Ms) (id : Int) : Ms := if dlv s id = true then outS s (pos s.l id) else s
def nxtB (s : Ms) : Bool := (nxt s).isSome
def nxtP (s : Ms) : Pk := match nxt s with | some i => at_ s.l i | none => pk0
def nxtS (s : Ms) : Ms := match nxt s with | some i => outS s i | none => s
theorem at_is {l : List Pk} {i : Nat} {p : Pk} (h : l[i]? = some p) : at_ l i = p := by unfold at_; rw [List.getD_eq_getElem?_getD, h]; rfl
end Msh
open Go.RowKit Msh
set_option linter.unusedVariables false
set_option maxRecDepth 10000

/-- What a call leaves. -/
def Left (w w' : World) (b : Nat) (s' : Ms) (F : Nat → Prop) : Prop := ∃ F', Me w' b s' F' ∧ (∀ k, F' k → F k ∨ w.heap.size ≤ k) ∧ Chg F w w'
theorem Left.same {w w' : World} {b : Nat} {s : Ms} {F : Nat → Prop} (h : Me w b s F) (g : w.grownBy w' none) : Left w w' b s F := ⟨F, h.grown g, fun k hk => .inl hk, Chg.of g (by simp)⟩
theorem Left.late {w w1 w' : World} {b : Nat} {s' : Ms} {F : Nat → Prop} (h : Left w1 w' b s' F) (g : w.grownBy w1 none) : Left w w' b s' F := by
  obtain ⟨F', h1, h2, h3⟩ := h
  have := g.size
  exact ⟨F', h1, fun k hk => (h2 k hk).imp id (fun e => by omega), (Chg.of (F := F) g (by simp)).trans h3 fun k hk => .inl hk⟩
set_option maxRecDepth 100000 in
theorem send_any (b : Nat) (s : Ms) (F : Nat → Prop) (fm tt : Int) (body : ByteArray) (w : World) (h : Me w b s F) (hn : s.n ≤ 1000000) (hb : body.size ≤ 140737488351232) (hf : I64 fm) (ht : I64 tt) :
    Calls Try.prog 9 #[.pointer (some ⟨b, 0, none⟩), .int .i64 fm, .int .i64 tt, .string body] w fun e w' => e = .returned (.tuple #[.int .i64 (sendI s body), .int .i64 (sendE s body)]) ∧ Left w w' b (sendS s fm tt body) F := by
  by_cases hl : 65536 < body.size
  · have SM : Hid (Left w w b s F) := Left.same h (grown_refl _ _)
    unfold sendI sendE sendS
    rw [if_pos hl, if_pos hl, if_pos hl]
    clear h
    go_enter Try.func9, Try.ntmps9
    go_wp2
    go_ret2
    exact ⟨rfl, SM.out⟩
  · have EN := enter_any b s F ⟨0, fm, tt, body⟩ w h hn (by simp only; omega) hf ht
    unfold sendI sendE sendS
    rw [if_neg hl, if_neg hl, if_neg hl]
    clear h
    generalize hX : entI s = X at *
    generalize hY : entE s.l = Y at *
    clear hX hY
    go_enter Try.func9, Try.ntmps9
    go_wp2_with (go_at_call 25; (with_reducible refine EN.mono ?_); rintro e w2 ⟨rfl, hL⟩)
    go_ret2
    exact ⟨rfl, hL⟩
set_option maxRecDepth 100000 in
theorem drop_any (b : Nat) (s : Ms) (F : Nat → Prop) (id : Int) (w : World) (h : Me w b s F) :
    Calls Try.prog 15 #[.pointer (some ⟨b, 0, none⟩), .int .i64 id] w fun e w' => e = .returned (.bool (there s.l id)) ∧ Left w w' b (dropS s id) F := by
  obtain ⟨bm, v, h1, h2⟩ := h
  have FA := find_any b bm v s id w h1
  have H0 : Hid (Me w b s F) := ⟨bm, v, h1, h2⟩
  cases hth : there s.l id with
  | false =>
    unfold dropS
    rw [hth] at FA ⊢
    simp only [Bool.false_eq_true, if_false]
    clear hth
    clear h1
    go_enter Try.func15, Try.ntmps15
    go_wp2_with (go_at_call 26; (with_reducible refine FA.mono ?_); rintro e w2 ⟨rfl, hg2⟩)
    go_ret
    exact ⟨rfl, Left.same H0.out hg2⟩
  | true =>
    obtain ⟨p, hp, he⟩ := there_at h1.ok.rise hth
    have TK := fun W g => take_any b s F (pos s.l id) p W (H0.out.grown g) hp
    unfold dropS
    rw [hth] at FA ⊢
    simp only [if_true]
    clear hth
    generalize pos s.l id = i at *
    clear h1 hp he
    go_enter Try.func15, Try.ntmps15
    go_wp2_with (first
      | (go_at_call 26; (with_reducible refine FA.mono ?_); rintro e w2 ⟨rfl, hg2⟩)
      | (go_at_call 28; (with_reducible refine (TK _ hg2).mono ?_); rintro e w3 ⟨rfl, hL⟩))
    go_ret
    exact ⟨rfl, Left.late hL hg2⟩
set_option maxRecDepth 100000 in
theorem flight_any (b : Nat) (s : Ms) (F : Nat → Prop) (w : World) (h : Me w b s F) :
    Calls Try.prog 24 #[.pointer (some ⟨b, 0, none⟩)] w fun e w' => ∃ ad c, e = .returned (.slice ad s.l.length c) ∧ eP.Own w' w.heap.size (.slice ad s.l.length c) s.l ∧ w.grownBy w' none := by
  obtain ⟨bm, v, h1, h2⟩ := h
  have CL := clone_any v s.l w h1.row h1.ok.len
  have c0 := h1.c0
  clear h1
  go_enter Try.func24, Try.ntmps24
  go_wp2_with (go_at_call 34; (with_reducible refine CL.mono ?_); rintro e w2 ⟨ad, c, rfl, hO, hg⟩)
  go_ret
  exact ⟨ad, c, rfl, hO, hg⟩
set_option maxRecDepth 100000 in
theorem double_any (b : Nat) (s : Ms) (F : Nat → Prop) (id : Int) (w : World) (h : Me w b s F) (hn : s.n ≤ 1000000) :
    Calls Try.prog 17 #[.pointer (some ⟨b, 0, none⟩), .int .i64 id] w fun e w' => e = .returned (.tuple #[.int .i64 (dblI s id), .int .i64 (dblE s id)]) ∧ Left w w' b (dblS s id) F := by
  obtain ⟨bm, v, h1, h2⟩ := h
  have FA := find_any b bm v s id w h1
  have H0 : Hid (Me w b s F) := ⟨bm, v, h1, h2⟩
  unfold dblI dblE dblS
  cases hth : there s.l id with
  | false =>
    rw [hth] at FA
    simp only [Bool.false_eq_true, if_false]
    clear hth h1
    go_enter Try.func17, Try.ntmps17
    go_wp2_with (go_at_call 26; (with_reducible refine FA.mono ?_); rintro e w2 ⟨rfl, hg2⟩)
    go_ret2
    exact ⟨rfl, Left.same H0.out hg2⟩
  | true =>
    obtain ⟨p, hp, he⟩ := there_at h1.ok.rise hth
    have hmem := List.mem_of_getElem? hp
    have EN := fun W g => enter_any b s F p W (H0.out.grown g) hn (h1.ok.txt p hmem) (h1.i64 p hmem).1 (h1.i64 p hmem).2
    rw [hth] at FA
    simp only [if_true]
    rw [at_is hp]
    have hil := (List.getElem?_eq_some_iff.1 hp).1
    have hl512 := h1.ok.len
    obtain ⟨g, o, c, hv, hr⟩ := range_pk h1.row.rx hp
    have c0 := h1.c0
    subst hv
    have RW : Hid (∀ W, w.grownBy W none → W.cell? ⟨b, 0, none⟩ = some (.slice (some ⟨g, o, none⟩) s.l.length c) ∧ W.rangeAt g (o + pos s.l id * 4) (eP.enc p)) := fun W hg => ⟨hg.cell c0 (by simp), range_kept hr hg (by simp)⟩
    generalize s.l.length = N at *
    generalize pos s.l id = i at *
    generalize entI s = X at *
    generalize entE s.l = Y at *
    clear h1 hp he hth hr
    go_enter Try.func17, Try.ntmps17
    go_wp2_with (first
      | (refine load_pk g (o + i * 4) p rfl R2 ?_)
      | (go_at_call 26; (with_reducible refine FA.mono ?_); rintro e w2 ⟨rfl, hg2⟩; obtain ⟨c02, R2⟩ := RW.out w2 hg2)
      | (go_at_call 25; (with_reducible refine (EN _ hg2).mono ?_); rintro e w3 ⟨rfl, hL⟩))
    go_ret2
    exact ⟨rfl, Left.late hL hg2⟩
theorem there_chg {F : Nat → Prop} {w w' : World} {q : Nat} (h : w.there q 0 4) (g : Chg F w w') (hF : ¬ F q) : w'.there q 0 4 := by
  have hlt : q < w.heap.size := by
    obtain ⟨u, hu⟩ := Option.isSome_iff_exists.1 (h 0 (by omega)).1
    exact World.block_lt_of_cell? w _ hu
  have hb := g.block q hlt hF
  intro j hj
  have := h j hj
  exact ⟨by rw [World.cell?_of_block (a := ⟨q, 0 + j, none⟩) hb]; exact this.1, by rw [World.frozen?_of_block (a := ⟨q, 0 + j, none⟩) hb]; exact this.2⟩
theorem pv0 : (Value.agg #[.int .i64 0, .int .i64 0, .int .i64 0, .string ⟨#[]⟩]) = pv pk0 := rfl
/-- A call's own block, written behind it. -/
theorem Left.wrote {w w1 w2 w' : World} {b q : Nat} {s' : Ms} {F : Nat → Prop} (h : Left w1 w2 b s' F) (g1 : w.grownBy w1 none) (hq : w.heap.size ≤ q) (hq1 : q < w1.heap.size) (hF : ∀ k, F k → k < w.heap.size) (g : w2.grownBy w' (some q)) : Left w w' b s' F := by
  obtain ⟨F', h1, h2, h3⟩ := h.late g1
  obtain ⟨F'', k1, k2, k3⟩ := h
  refine ⟨F'', k1.kept (G := fun k => k = q) (Chg.of g fun k e => by injection e with e; exact e.symm) (fun k hk e => ?_), fun k hk => ?_, h3.grown g fun k e => .inr (by injection e with e; omega)⟩
  · subst e
    rcases k2 k hk with e | e
    · have := hF k e; omega
    · omega
  · rcases k2 k hk with e | e
    · exact .inl e
    · have := g1.size; exact .inr (by omega)
end Go.Proofs.Ytffbaomaiohdiaa
