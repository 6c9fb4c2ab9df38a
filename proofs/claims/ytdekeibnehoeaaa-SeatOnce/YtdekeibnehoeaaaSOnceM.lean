/- Sessions one behind the other: what stays true. -/
import Derived.Test.YtdekeibnehoeaaaSCalls
namespace Go.Proofs.Ytdekeibnehoeaaa
open Go.RowKit Sea
set_option linter.unusedVariables false
set_option maxRecDepth 10000

def eN : Elm Int where
  el := 2
  sl := 39
  size := 1
  bytes := 8
  zero := .int .i64 0
  enc := fun x => [.int .i64 x]
  hu := Try.underlying39
  hi := by kernel_rfl
  hz := rfl
  hs := by decide
  len := fun _ => rfl
  one := by intro x v hv; simp at hv; rcases hv with rfl; rfl
  he := by kernel_rfl
  so := fun W => Try.sizeOf2 W
theorem made_n : (madeCells (Value.int .i64 0).cells (65 * 1)).toList = eN.cells (List.replicate 65 0) := by kernel_rfl
theorem make_n (W : World) : ∃ W', (Instr.makeSlice 39 (.int .i64 65) (.int .i64 65)).run Try.prog W = .ok (.slice (some ⟨W.heap.size, 0, none⟩) 65 65) W' ∧ eN.Own W' W.heap.size (.slice (some ⟨W.heap.size, 0, none⟩) 65 65) (List.replicate 65 0) ∧ W.grownBy W' none := by
  obtain ⟨i, hi, hz0, hz1, hz2⟩ := info_parts eN.hi
  have z2 : i.bytes = 8 := hz2
  obtain ⟨W', h1, h2, h3⟩ := run_make_full (P := Try.prog) W W.heap.size 39 2 i (.int .i64 0) 1 Try.underlying39 hi hz0 hz1 .i64 .i64 65 (by rw [z2]; omega) (by unfold maxLen; omega) (Nat.le_refl _)
  refine ⟨W', h1, ?_, h3⟩
  unfold Elm.Own
  rw [List.length_replicate, ← made_n]
  exact h2
/-- The last number of a client, or 0. -/
def lastOf (L : List Sn) (c : Int) : Int := match lk L c with
  | none => 0
  | some s => s.sq
/-- What Look may say of a book. -/
theorem look_cases {L : List Sn} (hc : chk L = true) (s : Sn) :
    (may s.cl s.sq = false ∧ lookE L s.cl s.sq = 1) ∨ (may s.cl s.sq = true ∧ ((lookE L s.cl s.sq = 60 ∧ newer L s = true ∧ lastOf L s.cl < s.sq) ∨ (lookE L s.cl s.sq = 0 ∧ lastOf L s.cl = s.sq ∧ ∃ y, lk L s.cl = some y ∧ y.cl = s.cl ∧ y.sq = s.sq ∧ y ∈ L ∧ lookS L s.cl s.sq = y) ∨ (lookE L s.cl s.sq = 160 ∧ s.sq < lastOf L s.cl))) := by
  cases hm : may s.cl s.sq with
  | false => exact .inl ⟨rfl, by unfold lookE; rw [if_neg (by rw [hc]; decide), if_pos hm]⟩
  | true =>
    refine .inr ⟨rfl, ?_⟩
    have hq := (may_is.1 hm).2.2
    have e0 : lookE L s.cl s.sq = match lk L s.cl with
        | none => 60
        | some x => if x.sq < s.sq then 60 else if s.sq < x.sq then 160 else 0 := by unfold lookE; rw [if_neg (by rw [hc]; decide), if_neg (by rw [hm]; decide)]; rfl
    cases hk : lk L s.cl with
    | none =>
      rw [hk] at e0
      refine .inl ⟨e0, ?_, ?_⟩
      · unfold newer; rw [hk]
      · unfold lastOf; rw [hk]; show (0 : Int) < _; omega
    | some y =>
      rw [hk] at e0
      obtain ⟨hy, hyc⟩ := lk_some hk
      have hla : lastOf L s.cl = y.sq := by unfold lastOf; rw [hk]
      replace e0 : lookE L s.cl s.sq = if y.sq < s.sq then 60 else if s.sq < y.sq then 160 else 0 := e0
      by_cases h1 : y.sq < s.sq
      · rw [if_pos h1] at e0
        refine .inl ⟨e0, ?_, by omega⟩
        unfold newer; rw [hk]; simpa using h1
      · rw [if_neg h1] at e0
        by_cases h2 : s.sq < y.sq
        · rw [if_pos h2] at e0
          exact .inr (.inr ⟨e0, by omega⟩)
        · rw [if_neg h2] at e0
          refine .inr (.inl ⟨e0, by omega, y, rfl, hyc, by omega, hy, ?_⟩)
          unfold lookS
          rw [e0, if_pos rfl, hk]
          rfl
theorem last_put {L : List Sn} {s : Sn} (hp : L.Pairwise fun p q => p.cl < q.cl) (hn : newer L s = true) (c : Int) : lastOf (put1 L s) c = if c = s.cl then s.sq else lastOf L c := by
  unfold lastOf
  by_cases h : c = s.cl
  · subst h
    rw [if_pos rfl, lk_put_same hp hn]
  · rw [if_neg h, lk_put_other h]
/-- What stays true while sessions come in. -/
structure On (w wr : World) (ub : S3) (q : Nat) (ud : S3) (X D : List (Sn × S3)) (Ls : List Int) (k : Nat) : Prop where
  g : w.grownBy wr none
  bk : Bk wr (.slice ub.a ub.n ub.c) X
  ck : chk (X.map (·.1)) = true
  lt : eN.Own wr w.heap.size (.slice (some ⟨q, 0, none⟩) 65 65) Ls
  ll : Ls.length = 65
  lv : ∀ c : Nat, 1 ≤ c → c ≤ 64 → Ls[c]? = some (lastOf (X.map (·.1)) (c : Int))
  dn : eS.Own wr w.heap.size (.slice ud.a ud.n ud.c) D
  dl : D.length ≤ k
  dr : ∀ x ∈ D, Rdj w x.2 x.1.js
  dx : ∀ s ∈ X.map (·.1), ∃ x ∈ D, x.1 = s
  sq : X ≠ [] → ∀ j, (Value.slice ub.a ub.n ub.c).ownBlock = some j → j ≠ q ∧ (Value.slice ud.a ud.n ud.c).ownBlock ≠ some j
  sn : ∀ x ∈ X, x.1.js ≠ [] → ∀ j, (Value.slice x.2.a x.2.n x.2.c).ownBlock = some j → j ≠ q ∧ (Value.slice ud.a ud.n ud.c).ownBlock ≠ some j
  sd : (Value.slice ud.a ud.n ud.c).ownBlock ≠ some q
theorem On.more {w wr w' : World} {ub ud : S3} {q k : Nat} {X D : List (Sn × S3)} {Ls : List Int} (h : On w wr ub q ud X D Ls k) (g : wr.grownBy w' none) : On w w' ub q ud X D Ls (k + 1) :=
  ⟨grown_tr h.g g, h.bk.grown g, h.ck, h.lt.grown g, h.ll, h.lv, h.dn.grown g, Nat.le_succ_of_le h.dl, h.dr, h.dx, h.sq, h.sn, h.sd⟩
/-- The cells of the last numbers. -/
theorem On.at_ {w wr : World} {ub ud : S3} {q k : Nat} {X D : List (Sn × S3)} {Ls : List Int} (h : On w wr ub q ud X D Ls k) {c : Nat} (h1 : 1 ≤ c) (h2 : c ≤ 64) : wr.cell? ⟨q, c, none⟩ = some (.int .i64 (lastOf (X.map (·.1)) (c : Int))) ∧ wr.frozen? ⟨q, c, none⟩ = false := by
  obtain ⟨g, c', e, hc, hf⟩ := h.lt.at_ (h.lv c h1 h2)
  injection e with e _ _
  injection e with e
  injection e with e _ _
  subst e
  refine ⟨?_, hf c⟩
  have := hc 0 _ rfl
  rwa [show c * eN.size + 0 = c by show c * 1 + 0 = c; omega] at this
theorem On.lt_ {w wr : World} {ub ud : S3} {q k : Nat} {X D : List (Sn × S3)} {Ls : List Int} (h : On w wr ub q ud X D Ls k) : w.heap.size ≤ q ∧ q < wr.heap.size := h.lt.lt q rfl
/-- A session is put into the book. -/
theorem On.put {w wr W2 w3 w5 : World} {ub ud u3 ud' : S3} {q k : Nat} {X D Y : List (Sn × S3)} {Ls : List Int} {s : Sn} {su : S3} {c : Nat} (h : On w wr ub q ud X D Ls k) (g2 : wr.grownBy W2 none) (b3 : Bk w3 (.slice u3.a u3.n u3.c) Y) (e3 : Y.map (·.1) = put1 (X.map (·.1)) s) (g3 : W2.grownBy w3 none) (f3 : Fr W2 (.slice u3.a u3.n u3.c) Y)
    (hm : may s.cl s.sq = true) (hn : newer (X.map (·.1)) s = true) (hc : s.cl = (c : Int)) (hr : Rdj w su s.js)
    (O5 : eS.Own w5 w.heap.size (.slice ud'.a ud'.n ud'.c) (D ++ [(s, su)])) (g5 : ((w3.setCell ⟨q, c, none⟩ (.int .i64 s.sq)).alloc (.cells #[.int .i64 s.cl, .int .i64 s.sq, .int .i64 s.er, .int .i64 s.tm, .slice su.a su.n su.c] 28)).grownBy w5 (Value.slice ud.a ud.n ud.c).ownBlock)
    (l5 : (Value.slice ud'.a ud'.n ud'.c).ownBlock = (Value.slice ud.a ud.n ud.c).ownBlock ∨ (Value.slice ud'.a ud'.n ud'.c).ownBlock = some ((w3.setCell ⟨q, c, none⟩ (.int .i64 s.sq)).alloc (.cells #[.int .i64 s.cl, .int .i64 s.sq, .int .i64 s.er, .int .i64 s.tm, .slice su.a su.n su.c] 28)).heap.size) :
    On w w5 u3 q ud' Y (D ++ [(s, su)]) (Ls.set c s.sq) (k + 1) := by
  have hcm := may_is.1 hm
  have hp := (chk_iff.1 h.ck).2
  have hql := h.lt_
  have dlt : ∀ j, (Value.slice ud.a ud.n ud.c).ownBlock = some j → w.heap.size ≤ j ∧ j < wr.heap.size := fun j hj => h.dn.lt j hj
  have s2 := g2.size
  have s3 := g3.size
  have w4s : (w3.setCell ⟨q, c, none⟩ (.int .i64 s.sq)).heap.size = w3.heap.size := size_set _ _ _
  -- what has turned between w3 and w5
  have C : Chg (fun j => j = q ∨ (Value.slice ud.a ud.n ud.c).ownBlock = some j) w3 w5 := by
    refine ((Chg.of (F := fun j => j = q ∨ (Value.slice ud.a ud.n ud.c).ownBlock = some j) (grown_set w3 ⟨q, c, none⟩ (.int .i64 s.sq)) (fun j e => by injection e with e; exact .inl e.symm)).grown (World.grownBy_alloc _ _ none) (by simp)).grown g5 (fun j e => .inl (.inr e))
  have C' : Chg (fun j => (Value.slice ud.a ud.n ud.c).ownBlock = some j) (w3.setCell ⟨q, c, none⟩ (.int .i64 s.sq)) w5 := (Chg.of (F := fun j => (Value.slice ud.a ud.n ud.c).ownBlock = some j) (World.grownBy_alloc _ _ none) (by simp)).grown g5 (fun j e => .inl e)
  have gw : w.grownBy w5 none := by
    have h1 := grown_tr h.g (grown_tr g2 g3)
    refine ⟨C.os.trans h1.os, C.tape.trans h1.tape, C.output.trans h1.output, Nat.le_trans h1.size C.size, fun j hj _ => ?_⟩
    rw [C.block j (by omega) (fun e => by rcases e with e | e; omega; have := dlt j e; omega)]
    exact h1.block j hj (by simp)
  have nb : ∀ j, W2.heap.size ≤ j → j ≠ q ∧ (Value.slice ud.a ud.n ud.c).ownBlock ≠ some j := fun j hj => ⟨by omega, fun e => by have := dlt j e; omega⟩
  have nd : ∀ j, W2.heap.size ≤ j → j < w3.heap.size → (Value.slice ud'.a ud'.n ud'.c).ownBlock ≠ some j := fun j hj hj2 e => by
    rcases l5 with l5 | l5
    · rw [l5] at e; exact (nb j hj).2 e
    · rw [l5] at e
      injection e with e
      simp only [World.size_alloc] at e
      omega
  have lt3 : eN.Own w3 w.heap.size (.slice (some ⟨q, 0, none⟩) 65 65) Ls := h.lt.grown (grown_tr g2 g3)
  have st := (lt3.set (i := c) (by rw [h.ll]; omega) s.sq).2
  have ec : w3.setCells q (c * eN.size) (eN.enc s.sq) = w3.setCell ⟨q, c, none⟩ (.int .i64 s.sq) := by
    show w3.setCells q (c * 1) [.int .i64 s.sq] = _
    rw [Nat.mul_one]
    rfl
  rw [ec] at st
  refine ⟨gw, ⟨b3.1.kept' C (fun hne j hj => ?_), fun x hx => (b3.2 x hx).kept C (fun hj j hk => ?_)⟩, by rw [e3]; exact chk_put h.ck hm, st.kept C' (fun j hj => ?_), by rw [List.length_set]; exact h.ll, fun d h1 h2 => ?_, O5, by simp; exact h.dl, fun x hx => ?_, fun t ht => ?_, fun hne j hj => ?_, fun x hx hj j hk => ?_, fun e => ?_⟩
  · have := nb j (f3.1 j hj)
    exact fun e => by rcases e with e | e; exact this.1 e; exact this.2 e
  · have := nb j (f3.2 x hx hj j hk)
    exact fun e => by rcases e with e | e; exact this.1 e; exact this.2 e
  · injection hj with hj
    intro e
    exact h.sd (e.trans (by rw [← hj]))
  · rw [List.getElem?_set, e3, last_put hp hn]
    by_cases e : c = d
    · subst e
      rw [if_pos rfl, if_pos (by rw [h.ll]; omega), if_pos hc.symm]
    · rw [if_neg e, if_neg (by omega)]
      exact h.lv d h1 h2
  · rcases List.mem_append.1 hx with hx | hx
    · exact h.dr x hx
    · rw [List.mem_singleton.1 hx]; exact hr
  · rw [e3] at ht
    rcases put1_keys _ _ t ht with e | ht
    · exact ⟨(s, su), by simp, e.symm⟩
    · obtain ⟨x, hx, e⟩ := h.dx t ht
      exact ⟨x, by simp [hx], e⟩
  · have h1 := f3.1 j hj
    exact ⟨(nb j h1).1, nd j h1 (b3.1.lt hne j hj)⟩
  · have h1 := f3.2 x hx hj j hk
    exact ⟨(nb j h1).1, nd j h1 ((b3.2 x hx).1.lt hj j hk)⟩
  · rcases l5 with l5 | l5
    · rw [l5] at e; exact h.sd e
    · rw [l5] at e
      injection e with e
      simp only [World.size_alloc] at e
      omega
end Go.Proofs.Ytdekeibnehoeaaa
