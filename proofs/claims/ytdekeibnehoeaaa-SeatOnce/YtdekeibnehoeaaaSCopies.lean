/- copies: a book of one's own. -/
import Derived.Test.YtdekeibnehoeaaaSClone
namespace Go.Proofs.Ytdekeibnehoeaaa
open Go.RowKit Sea
set_option linter.unusedVariables false
set_option maxRecDepth 10000

/-- A book of one's own: its row may be written, the jobs lie elsewhere. -/
structure Ob (w : World) (base : Nat) (v : Value) (X : List (Sn × S3)) : Prop where
  own : eS.Own w base v X
  rd : ∀ x ∈ X, Rdj w x.2 x.1.js
  sep : ∀ x ∈ X, x.1.js ≠ [] → ∀ k, (Value.slice x.2.a x.2.n x.2.c).ownBlock = some k → v.ownBlock ≠ some k
  low : ∀ x ∈ X, x.1.js ≠ [] → ∀ k, (Value.slice x.2.a x.2.n x.2.c).ownBlock = some k → base ≤ k
theorem Ob.bk {w : World} {base : Nat} {v : Value} {X : List (Sn × S3)} (h : Ob w base v X) : Bk w v X := ⟨h.own.rx, h.rd⟩
theorem Ob.grown {w w' : World} {base : Nat} {v : Value} {X : List (Sn × S3)} (h : Ob w base v X) (g : w.grownBy w' none) : Ob w' base v X := ⟨h.own.grown g, fun x hx => (h.rd x hx).grown g, h.sep, h.low⟩
theorem made_s (N : Nat) : (madeCells (Value.agg #[.int .i64 0, .int .i64 0, .int .i64 0, .int .i64 0, .slice none 0 0]).cells (N * 5)).toList = eS.cells (List.replicate N (zeroS, nil3)) := by
  apply List.ext_getElem?
  intro t
  by_cases ht : t < N * 5
  · have hz : (List.replicate N ((zeroS, nil3) : Sn × S3))[t / 5]? = some (zeroS, nil3) := by rw [List.getElem?_replicate, if_pos (by omega)]
    have h1 := Elm.cells_at eS hz (t % 5) (Nat.mod_lt _ (by decide))
    have e : t / 5 * eS.size + t % 5 = t := by show t / 5 * 5 + t % 5 = t; omega
    rw [e] at h1
    rw [h1, Array.getElem?_toList, Array.getElem?_eq_getElem (by rw [size_madeCells]; exact ht)]
    unfold madeCells
    simp only [Array.getElem_map, Array.getElem_range]
    show some ((#[Value.int .i64 0, .int .i64 0, .int .i64 0, .int .i64 0, .slice none 0 0])[t % 5]!) = _
    have h5 : t % 5 = 0 ∨ t % 5 = 1 ∨ t % 5 = 2 ∨ t % 5 = 3 ∨ t % 5 = 4 := by omega
    rcases h5 with h0 | h0 | h0 | h0 | h0 <;> rw [h0] <;> rfl
  · rw [List.getElem?_eq_none (by rw [Array.length_toList, size_madeCells]; omega), List.getElem?_eq_none (by rw [Elm.cells_len, List.length_replicate]; show N * 5 ≤ t; omega)]
/-- A row of sessions is made. -/
theorem make_s (N : Nat) (hN : N ≤ 4096) (W : World) : ∃ W', (Instr.makeSlice 22 (.int .i64 (N : Int)) (.int .i64 (N : Int))).run Try.prog W = .ok (.slice (some ⟨W.heap.size, 0, none⟩) N N) W' ∧ Ob W' W.heap.size (.slice (some ⟨W.heap.size, 0, none⟩) N N) (List.replicate N (zeroS, nil3)) ∧ W.grownBy W' none := by
  obtain ⟨i, hi, hz0, hz1, hz2⟩ := info_parts eS.hi
  have z2 : i.bytes = 56 := hz2
  obtain ⟨W', h1, h2, h3⟩ := run_make_full (P := Try.prog) W W.heap.size 22 28 i (.agg #[.int .i64 0, .int .i64 0, .int .i64 0, .int .i64 0, .slice none 0 0]) 5 Try.underlying22 hi hz0 hz1 .i64 .i64 N (by rw [z2]; omega) (by unfold maxLen; omega) (Nat.le_refl _)
  refine ⟨W', h1, ⟨?_, fun x hx => ?_, fun x hx _ k hk => ?_, fun x hx _ k hk => ?_⟩, h3⟩
  · unfold Elm.Own
    rw [List.length_replicate, ← made_s]
    exact h2
  · rw [List.eq_of_mem_replicate hx]; exact rdj_nil _
  · rw [List.eq_of_mem_replicate hx] at hk; simp [nil3, Value.ownBlock] at hk
  · rw [List.eq_of_mem_replicate hx] at hk; simp [nil3, Value.ownBlock] at hk
/-- One session of a book of one's own is written. -/
theorem Ob.set {w : World} {base g n c : Nat} {X : List (Sn × S3)} (h : Ob w base (.slice (some ⟨g, 0, none⟩) n c) X) {i : Nat} (hi : i < X.length) {s : Sn} {u : S3} (hr : Rdj w u s.js) (hn : ∀ k, (Value.slice u.a u.n u.c).ownBlock = some k → k ≠ g) (hlo : ∀ k, (Value.slice u.a u.n u.c).ownBlock = some k → base ≤ k) :
    w.there g (i * 5) 5 ∧ Ob (w.setCells g (i * 5) (sc (s, u))) base (.slice (some ⟨g, 0, none⟩) n c) (X.set i (s, u)) ∧ w.grownBy (w.setCells g (i * 5) (sc (s, u))) (some g) := by
  obtain ⟨h1, h2⟩ := h.own.set hi (s, u)
  have g1 := grown_setCells g (sc (s, u)) (i * 5) w
  have C : Chg (fun k => k = g) w (w.setCells g (i * 5) (sc (s, u))) := Chg.of g1 fun k e => by injection e with e; exact e.symm
  refine ⟨h1, ⟨h2, fun x hx => ?_, fun x hx hj k hk e => ?_, fun x hx hj k hk => ?_⟩, g1⟩
  · rcases List.mem_or_eq_of_mem_set hx with hx | rfl
    · exact (h.rd x hx).kept C (fun hj k hk e => h.sep x hx hj k hk (by rw [e]; rfl))
    · exact hr.kept C (fun _ k hk => hn k hk)
  · injection e with e
    rcases List.mem_or_eq_of_mem_set hx with hx | rfl
    · exact h.sep x hx hj k hk (by rw [← e]; rfl)
    · exact hn k hk e.symm
  · rcases List.mem_or_eq_of_mem_set hx with hx | rfl
    · exact h.low x hx hj k hk
    · exact hlo k hk
set_option maxRecDepth 100000 in
set_option maxHeartbeats 1600000 in
theorem copies_any (v : Value) (X : List (Sn × S3)) (w : World) (h : Bk w v X) (hl : X.length ≤ 4096) :
    Calls Try.prog 23 #[v] w fun e w' => ∃ u : S3, e = .returned (.slice u.a u.n u.c) ∧ ∃ Y : List (Sn × S3), Ob w' w.heap.size (.slice u.a u.n u.c) Y ∧ Y.map (·.1) = X.map (·.1) ∧ w.grownBy w' none := by
  obtain ⟨ad, cp, hv⟩ := h.form
  subst hv
  obtain ⟨N, hN⟩ : ∃ N, X.length = N := ⟨_, rfl⟩
  have NL : Hid (X.length = N) := hN
  rw [hN] at h hl ⊢
  have H : Hid (∀ W, w.grownBy W none → Bk W (.slice ad N cp) X) := fun W g => h.grown g
  obtain ⟨w1, M1, O1, G1⟩ := make_s N hl w
  have O1' : Hid (Ob w1 w.heap.size (.slice (some ⟨w.heap.size, 0, none⟩) N N) (List.replicate N (zeroS, nil3))) := O1
  have G1' : Hid (w.grownBy w1 none) := G1
  have CP := copied_any
  clear h hN O1 G1
  obtain ⟨q, hq⟩ : ∃ q, w.heap.size = q := ⟨_, rfl⟩
  have HQ : Hid (w.heap.size = q) := hq
  rw [hq] at O1' M1 ⊢
  clear hq
  go_enter Try.func23, Try.ntmps23
  go_wp2_with fail
  go_loopw [4, 5, 11] (fun _ _ i wr => ∃ (j : Nat) (Y : List (Sn × S3)), j ≤ N ∧ i = .int .i64 (j : Int) ∧ Hid (Ob wr q (.slice (some ⟨q, 0, none⟩) N N) Y) ∧ Hid (Y.length = N) ∧ Hid ((Y.take j).map (·.1) = (X.take j).map (·.1)) ∧ Hid (w.grownBy wr none)) (fun _ _ i _ => N - (intOf i).toNat)
  case atStart => exact ⟨0, List.replicate N (zeroS, nil3), by omega, rfl, O1', (List.length_replicate : _ = N), (rfl : _ = _), G1'⟩
  case round =>
    clear O1' G1' M1
    obtain ⟨j, Y, hj, rfl, O2, YL, I, G2⟩ := hrel
    by_cases hlt : j < N
    · obtain ⟨⟨s, u⟩, hy⟩ : ∃ y, X[j]? = some y := ⟨_, List.getElem?_eq_getElem (by rw [NL.out]; exact hlt)⟩
      have HY : Hid (X[j]? = some (s, u)) := hy
      obtain ⟨g, o, e1, r1⟩ := range_at (H.out wr G2.out).1 hy
      have RG : Hid (wr.rangeAt g (o + j * 5) (sc (s, u))) := r1
      have BX : Hid (∀ W, (wr.alloc (.cells #[.int .i64 s.cl, .int .i64 s.sq, .int .i64 s.er, .int .i64 s.tm, .slice u.a u.n u.c] 28)).grownBy W none → _) := fun W g => box_s g
      obtain ⟨W1, hW1⟩ : ∃ W1, W1 = wr.alloc (.cells #[.int .i64 s.cl, .int .i64 s.sq, .int .i64 s.er, .int .i64 s.tm, .slice u.a u.n u.c] 28) := ⟨_, rfl⟩
      have HW1 : Hid (W1 = _) := hW1
      have GA : Hid (wr.grownBy W1 none) := by rw [hW1]; exact World.grownBy_alloc wr _ none
      have CA : Hid (∀ W, W1.grownBy W none → _) := fun W gg => CP s u W (((H.out wr G2.out).grown (grown_tr GA.out gg)).2 (s, u) (List.mem_of_getElem? hy))
      subst e1
      clear hy r1 hW1 CP
      go_wp2_with (first
        | (refine load_s g (o + j * 5) s u rfl RG.out ?_)
        | (refine load_s wr.heap.size 0 s u rfl (BX.out _ (grown_refl _ _)) ?_)
        | (go_at_call 20; rw [← HW1.out]; (with_reducible refine (CA.out _ (grown_refl _ _)).mono ?_); rintro e w2 ⟨u', rfl, r2, g2, n2⟩; have ST := (O2.out.grown (grown_tr GA.out g2)).set (i := j) (s := s) (u := u') (by rw [YL.out]; exact hlt) r2 (fun k hk => by have := n2 k hk; have := (O2.out.own.lt q rfl).2; have := GA.out.size; omega) (fun k hk => by have h1 := n2 k hk; have h2 := G2.out.size; have h3 := GA.out.size; have h4 := HQ.out; omega); have TH : Hid (w2.there q (j * 5) 5) := ST.1; have S2 : Hid _ := ST.2; clear ST)
        | (refine store_row (ty := 28) q (j * 5) (sc (s, u')).toArray rfl rfl TH.out (by kernel_rfl) (by simp [Value.oneCell']) ?_; intro w3 hw3; have H3 : Hid (w3 = w2.setCells q (j * 5) (sc (s, u'))) := hw3; clear hw3))
      go_roundw
      case rel =>
        have O3 : Ob w3 q (.slice (some ⟨q, 0, none⟩) N N) (Y.set j (s, u')) := by rw [H3.out]; exact S2.out.1
        have g3 : w.grownBy w3 none := by
          rw [H3.out]
          exact grown_more (grown_tr G2.out (grown_tr GA.out g2)) S2.out.2 (fun k e => .inr (by injection e with e; have := HQ.out; omega))
        refine ⟨j + 1, Y.set j (s, u'), by omega, by go_num, O3, (by show _ = _; rw [List.length_set]; exact YL.out), ?_, g3⟩
        show _ = _
        have hjy : j < Y.length := by rw [YL.out]; exact hlt
        rw [List.take_add_one, List.take_add_one, HY.out, List.getElem?_set_self hjy, List.take_set_of_le (Nat.le_refl _)]
        simp only [List.map_append]
        rw [I.out]
        rfl
      case measure => simp [intOf]; omega
    · obtain rfl : j = N := by omega
      have E : Hid (Y.map (·.1) = X.map (·.1)) := by
        have := I.out
        rwa [List.take_of_length_le (by rw [YL.out]; omega), List.take_of_length_le (by rw [NL.out]; omega)] at this
      go_wp2_with fail
      go_ret
      exact ⟨⟨some ⟨q, 0, none⟩, j, j⟩, rfl, Y, O2.out, E.out, G2.out⟩
end Go.Proofs.Ytdekeibnehoeaaa
