/- seated: a copy of a session in a book of one's own. -/
import Derived.Test.YtdekeibnehoeaaaSCopies
import Derived.Test.YtdekeibnehoeaaaSIns
namespace Go.Proofs.Ytdekeibnehoeaaa
open Go.RowKit Sea
set_option linter.unusedVariables false
set_option maxRecDepth 10000

/-- What seated leaves: the book with the session in its place, whether it is newer. -/
def SeatA (w : World) (base : Nat) (v : Value) (X : List (Sn × S3)) (s : Sn) (e : Ending) (w' : World) : Prop :=
  ∃ u : S3, e = .returned (.tuple #[.slice u.a u.n u.c, .bool (newer (X.map (·.1)) s)]) ∧ ∃ Y, Ob w' base (.slice u.a u.n u.c) Y ∧ Y.map (·.1) = put1 (X.map (·.1)) s ∧ w.grownBy w' v.ownBlock
theorem ob_lt {w : World} {base : Nat} {v : Value} {X : List (Sn × S3)} (h : Ob w base v X) : ∀ x ∈ X, x.1.js ≠ [] → ∀ k, (Value.slice x.2.a x.2.n x.2.c).ownBlock = some k → k < w.heap.size := fun x hx hj => (h.rd x hx).1.lt hj
/-- A session is put in between. -/
theorem ob_ins {w w4 w5 : World} {base : Nat} {v : Value} {X : List (Sn × S3)} {s : Sn} {u : S3} {p : Nat} {e : Ending} (hb : base ≤ w.heap.size) (h : Ob w base v X) (g : w.grownBy w4 none) (r : Rdj w4 u s.js) (n : ∀ k, (Value.slice u.a u.n u.c).ownBlock = some k → w.heap.size ≤ k ∧ k < w4.heap.size) (IA : InsA w4 base v (X.take p ++ (s, u) :: X.drop p) e w5) :
    ∃ u5 : S3, e = .returned (.slice u5.a u5.n u5.c) ∧ Ob w5 base (.slice u5.a u5.n u5.c) (X.take p ++ (s, u) :: X.drop p) ∧ w.grownBy w5 v.ownBlock := by
  obtain ⟨u5, e5, o5, g5, b5⟩ := IA
  have C : Chg (fun k => v.ownBlock = some k) w4 w5 := Chg.of g5 fun k e => e
  have vlt : ∀ k, v.ownBlock = some k → k < w.heap.size := fun k hk => (h.own.lt k hk).2
  have mem : ∀ x ∈ X.take p ++ (s, u) :: X.drop p, x = (s, u) ∨ x ∈ X := fun x hx => by
    rcases List.mem_append.1 hx with hx | hx
    · exact .inr (List.mem_of_mem_take hx)
    · rcases List.mem_cons.1 hx with hx | hx
      · exact .inl hx
      · exact .inr (List.mem_of_mem_drop hx)
  refine ⟨u5, e5, ⟨o5, fun x hx => ?_, fun x hx hj k hk e => ?_, fun x hx hj k hk => ?_⟩, ?_⟩
  · rcases mem x hx with rfl | hx
    · exact r.kept C (fun _ k hk e => by have := n k hk; have := vlt k e; omega)
    · exact ((h.rd x hx).grown g).kept C (fun hj k hk e => h.sep x hx hj k hk e)
  · rcases mem x hx with rfl | hx
    · have h1 := n k hk
      rcases b5 with b5 | b5
      · rw [b5] at e; have := vlt k e; omega
      · rw [b5] at e; injection e with e; omega
    · rcases b5 with b5 | b5
      · rw [b5] at e; exact h.sep x hx hj k hk e
      · rw [b5] at e
        injection e with e
        have h1 := (h.rd x hx).1.lt hj k hk
        have h2 := g.size
        omega
  · rcases mem x hx with rfl | hx
    · have h1 := n k hk; omega
    · exact h.low x hx hj k hk
  · exact grown_more (World.grownBy.but g _) g5 (fun _ e => .inl e)
theorem new_block (w : World) (o : Obj) : (w.alloc o).heap[w.heap.size]? = some o := by show (w.heap.push _)[w.heap.size]? = _; exact Array.getElem?_push_size
set_option maxRecDepth 100000 in
set_option maxHeartbeats 1600000 in
theorem seated_no (v : Value) (X : List (Sn × S3)) (s : Sn) (u : S3) (w : World) (base : Nat) (h : Ob w base v X) (hb : base ≤ w.heap.size) (hl : X.length ≤ 4096) (hr : Rdj w u s.js) (hp : X.Pairwise fun p q => p.1.cl < q.1.cl) (ht : there (fun x : Sn × S3 => x.1.cl) X s.cl = false) :
    Calls Try.prog 22 #[v, sv s u] w fun e w' => SeatA w base v X s e w' := by
  have htm : there Sn.cl (X.map (·.1)) s.cl = false := by rw [← there_map (f := Sn.cl) (fun x : Sn × S3 => x.1)]; exact ht
  have hnw : newer (X.map (·.1)) s = true := by unfold newer; rw [lk_none htm]
  have FI : Hid (∀ W, w.grownBy W none → _) := fun W g => find_any v X s.cl W (h.own.rx.grown g) hp hl
  rw [ht] at FI
  have HP : Hid (X.Pairwise fun p q => p.1.cl < q.1.cl) := hp
  have HT : Hid (there Sn.cl (X.map (·.1)) s.cl = false) := htm
  have HN : Hid (newer (X.map (·.1)) s = true) := hnw
  have HO : Hid (Ob w base v X) := h
  have HR : Hid (Rdj w u s.js) := hr
  have CP := copied_any s
  obtain ⟨ad, cp, hv⟩ := Elm.form h.own
  obtain ⟨pp, hpp⟩ : ∃ pp, pos (fun x : Sn × S3 => x.1.cl) X s.cl = pp := ⟨_, rfl⟩
  have HPP : Hid (pos (fun x : Sn × S3 => x.1.cl) X s.cl = pp) := hpp
  have hple : pp ≤ X.length := by rw [← hpp]; exact pos_le _ _
  rw [hpp] at FI
  obtain ⟨N, hN⟩ : ∃ N, X.length = N := ⟨_, rfl⟩
  have NL : Hid (X.length = N) := hN
  subst hv
  rw [hN] at hple hl
  rw [hN] at FI HO ⊢
  obtain ⟨W1, hW1⟩ : ∃ W1, W1 = w.alloc (.cells #[.int .i64 s.cl, .int .i64 s.sq, .int .i64 s.er, .int .i64 s.tm, .slice u.a u.n u.c] 28) := ⟨_, rfl⟩
  have HW1 : Hid (W1 = _) := hW1
  have G1 : Hid (w.grownBy W1 none) := by rw [hW1]; exact World.grownBy_alloc w _ none
  have BX : Hid (∀ W, W1.grownBy W none → W.rangeAt w.heap.size 0 (sc (s, u))) := fun W g => by rw [hW1] at g; exact box_s g
  clear hp ht htm hnw h hr hpp hN hW1
  go_enter Try.func22, Try.ntmps22
  go_wp2_with (first
    | (go_at_call 19; rw [← HW1.out]; (with_reducible refine (FI.out _ G1.out).mono ?_); rintro e w2 ⟨rfl, g2⟩)
    | (refine load_s w.heap.size 0 s u rfl (BX.out w2 g2) ?_)
    | (go_at_call 20; (with_reducible refine (CP u w2 (HR.out.grown (grown_tr G1.out g2))).mono ?_); rintro e w3 ⟨u', rfl, r3, g3, n3⟩; have GG : Hid (w.grownBy (w3.alloc (.cells #[.int .i64 s.cl, .int .i64 s.sq, .int .i64 s.er, .int .i64 s.tm, .slice u'.a u'.n u'.c] 28)) none) := grown_alloc (grown_tr G1.out (grown_tr g2 g3)) _; have IC := insert_any (.slice ad N cp) X pp (s, u') (w3.alloc (.cells #[.int .i64 s.cl, .int .i64 s.sq, .int .i64 s.er, .int .i64 s.tm, .slice u'.a u'.n u'.c] 28)) base w3.heap.size _ (HO.out.own.grown GG.out) (by have := GG.out.size; omega) (by rw [NL.out]; exact hple) (by rw [NL.out]; exact hl) (fun j v hv => by have := box_s (grown_refl (w3.alloc (.cells #[.int .i64 s.cl, .int .i64 s.sq, .int .i64 s.er, .int .i64 s.tm, .slice u'.a u'.n u'.c] 28)) none) j v hv; rwa [Nat.zero_add] at this) (fun k hk => by have h1 := (HO.out.own.lt k hk).2; have h2 := (grown_tr G1.out (grown_tr g2 g3)).size; omega) (new_block w3 _))
    | (go_at_call 30; ((with_reducible refine IC.mono ?_); intro e w5 IA; obtain ⟨u5, rfl, o5, g5⟩ := ob_ins hb HO.out GG.out (r3.grown (World.grownBy_alloc w3 _ none)) (fun k hk => by have h1 := n3 k hk; have h2 := (grown_tr G1.out g2).size; simp; omega) IA; clear IA)))
  go_ret2
  refine ⟨u5, by rw [HN.out]; rfl, _, o5, ?_, g5⟩
  have e1 : pos Sn.cl (X.map (·.1)) s.cl = pp := by rw [← pos_map (f := Sn.cl) (fun x : Sn × S3 => x.1)]; exact HPP.out
  have := ins_put (List.pairwise_map.2 HP.out) HT.out
  rw [e1] at this
  rw [← this]
  simp
set_option maxRecDepth 100000 in
set_option maxHeartbeats 1600000 in
theorem seated_yes (v : Value) (X : List (Sn × S3)) (s : Sn) (u : S3) (w : World) (base : Nat) (h : Ob w base v X) (hb : base ≤ w.heap.size) (hl : X.length ≤ 4096) (hr : Rdj w u s.js) (hp : X.Pairwise fun p q => p.1.cl < q.1.cl) (ht : there (fun x : Sn × S3 => x.1.cl) X s.cl = true) :
    Calls Try.prog 22 #[v, sv s u] w fun e w' => SeatA w base v X s e w' := by
  have FI : Hid (∀ W, w.grownBy W none → _) := fun W g => find_any v X s.cl W (h.own.rx.grown g) hp hl
  obtain ⟨⟨y, yu⟩, hy, hyc⟩ := there_at (f := fun x : Sn × S3 => x.1.cl) hp ht
  rw [ht] at FI
  have hpm : (X.map (·.1)).Pairwise fun p q => p.cl < q.cl := List.pairwise_map.2 hp
  have hym : y ∈ X.map (·.1) := List.mem_map.2 ⟨(y, yu), List.mem_of_getElem? hy, rfl⟩
  have hnw : newer (X.map (·.1)) s = decide (y.sq < s.sq) := by unfold newer; rw [lk_at hpm hym hyc]
  obtain ⟨pp, hpp⟩ : ∃ pp, pos (fun x : Sn × S3 => x.1.cl) X s.cl = pp := ⟨_, rfl⟩
  have hpp2 : pos Sn.cl (X.map (·.1)) s.cl = pp := by rw [← pos_map (f := Sn.cl) (fun x : Sn × S3 => x.1)]; exact hpp
  rw [hpp] at FI hy
  have hym2 : (X.map (·.1))[pp]? = some y := by rw [List.getElem?_map, hy]; rfl
  have hput := set_put (s := s) (x := y) hpm (by rw [hpp2]; exact hym2) hyc
  rw [hpp2] at hput
  have hlt : pp < X.length := (List.getElem?_eq_some_iff.1 hy).1
  have HN : Hid (newer (X.map (·.1)) s = decide (y.sq < s.sq)) := hnw
  have HPUT : Hid ((if y.sq < s.sq then (X.map (·.1)).set pp s else X.map (·.1)) = put1 (X.map (·.1)) s) := hput
  have HO : Hid (Ob w base v X) := h
  have HR : Hid (Rdj w u s.js) := hr
  have CP := copied_any s
  obtain ⟨g, c, hv, _, _⟩ := h.own.at_ hy
  obtain ⟨N, hN⟩ : ∃ N, X.length = N := ⟨_, rfl⟩
  have NL : Hid (X.length = N) := hN
  subst hv
  rw [hN] at hlt hl FI HO ⊢
  have HY : Hid (∀ W, w.grownBy W none → W.rangeAt g (pp * 5) (sc (y, yu))) := fun W gg => by have := range_in (HO.out.own.rx.grown gg) hy; rwa [Nat.zero_add] at this
  obtain ⟨W1, hW1⟩ : ∃ W1, W1 = w.alloc (.cells #[.int .i64 s.cl, .int .i64 s.sq, .int .i64 s.er, .int .i64 s.tm, .slice u.a u.n u.c] 28) := ⟨_, rfl⟩
  have HW1 : Hid (W1 = _) := hW1
  have G1 : Hid (w.grownBy W1 none) := by rw [hW1]; exact World.grownBy_alloc w _ none
  have BX : Hid (∀ W, W1.grownBy W none → W.rangeAt w.heap.size 0 (sc (s, u))) := fun W g => by rw [hW1] at g; exact box_s g
  clear hp ht hnw h hr hpp hN hW1 hpp2 hput hym hym2 hpm hyc hy
  by_cases hs : y.sq < s.sq
  · go_enter Try.func22, Try.ntmps22
    go_wp2_with (go_at_call 19; rw [← HW1.out]; (with_reducible refine (FI.out _ G1.out).mono ?_); rintro e w2 ⟨rfl, g2⟩; obtain ⟨_, y1, _⟩ := range_cells (HY.out w2 (grown_tr G1.out g2)); obtain ⟨_, s1, _⟩ := range_cells (BX.out w2 g2))
    go_quiet (fail)
    go_wp2_with (first
      | (refine load_s w.heap.size 0 s u rfl (BX.out _ (grown_drewN g2 _)) ?_)
      | (go_at_call 20; (with_reducible refine (CP u _ (HR.out.grown (grown_tr G1.out (grown_drewN g2 _)))).mono ?_); rintro e w3 ⟨u', rfl, r3, g3, n3⟩; have GG := grown_tr G1.out (grown_tr (grown_drewN g2 _) g3); have ST := (HO.out.grown GG).set (i := pp) (s := s) (u := u') (by rw [NL.out]; exact hlt) r3 (fun k hk => by have h1 := n3 k hk; have h2 := (HO.out.own.lt g rfl).2; have h3 := (grown_tr G1.out (grown_drewN g2 1)).size; have h4 : (w2.drewN 1).heap.size = w2.heap.size := rfl; have h5 := h1.1; simp at h5; simp at h3; omega) (fun k hk => by have h1 := n3 k hk; have h3 := (grown_tr G1.out (grown_drewN g2 1)).size; have h5 := h1.1; simp at h5; simp at h3; omega); have TH : Hid (w3.there g (pp * 5) 5) := ST.1; have S2 : Hid _ := ST.2; have GH : Hid (w.grownBy w3 none) := GG; clear ST GG)
      | (refine store_row (ty := 28) g (pp * 5) (sc (s, u')).toArray rfl rfl TH.out (by kernel_rfl) (by simp [Value.oneCell']) ?_; intro w4 hw4; have H4 : Hid (w4 = w3.setCells g (pp * 5) (sc (s, u'))) := hw4; clear hw4))
    go_ret2
    refine ⟨⟨some ⟨g, 0, none⟩, N, c⟩, by rw [HN.out, decide_eq_true hs]; rfl, X.set pp (s, u'), by rw [H4.out]; exact S2.out.1, ?_, by rw [H4.out]; exact grown_more (World.grownBy.but GH.out _) S2.out.2 (fun _ e => .inl e)⟩
    have := HPUT.out
    rw [if_pos hs] at this
    rw [← this, List.map_set]
  · have ds : decide (y.sq < s.sq) = false := decide_eq_false hs
    go_enter Try.func22, Try.ntmps22
    go_wp2_with (go_at_call 19; rw [← HW1.out]; (with_reducible refine (FI.out _ G1.out).mono ?_); rintro e w2 ⟨rfl, g2⟩; obtain ⟨_, y1, _⟩ := range_cells (HY.out w2 (grown_tr G1.out g2)); obtain ⟨_, s1, _⟩ := range_cells (BX.out w2 g2))
    go_quiet (fail)
    go_wp2_with fail
    go_ret2
    have GG := grown_tr G1.out g2
    refine ⟨⟨some ⟨g, 0, none⟩, N, c⟩, by rw [HN.out, ds]; rfl, X, HO.out.grown (grown_drewN GG _), ?_, World.grownBy.but (grown_drewN GG _) _⟩
    have := HPUT.out
    rw [if_neg (by omega)] at this
    exact this
theorem seated_any (v : Value) (X : List (Sn × S3)) (s : Sn) (u : S3) (w : World) (base : Nat) (h : Ob w base v X) (hb : base ≤ w.heap.size) (hl : X.length ≤ 4096) (hr : Rdj w u s.js) (hp : X.Pairwise fun p q => p.1.cl < q.1.cl) :
    Calls Try.prog 22 #[v, sv s u] w fun e w' => SeatA w base v X s e w' := by
  cases ht : there (fun x : Sn × S3 => x.1.cl) X s.cl with
  | false => exact seated_no v X s u w base h hb hl hr hp ht
  | true => exact seated_yes v X s u w base h hb hl hr hp ht
end Go.Proofs.Ytdekeibnehoeaaa
