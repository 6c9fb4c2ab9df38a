/- quorum's lastAt, Reached. -/
import Derived.Test.YtdpcebaggldaiaaMc
import Derived.Test.YtdpcebaggldaiaaQB
namespace Go.Proofs.Ytdpcebaggldaiaa
open Go.RowKit Quo
set_option linter.unusedVariables false
set_option maxRecDepth 10000

theorem one_k (w : World) (x : Int) : eK.Rx (w.alloc (.cells #[.int .i64 x] 3)) (.slice (some ⟨w.heap.size, 0, none⟩) 1 1) [x] := Elm.rx_one (E := eK) fun j u hu => new_at w rfl (by rw [← hu]; simp [eK])
theorem one_n (w : World) (x : Int) : eN.Rx (w.alloc (.cells #[.int .i64 x] 2)) (.slice (some ⟨w.heap.size, 0, none⟩) 1 1) [x] := Elm.rx_one (E := eN) fun j u hu => new_at w rfl (by rw [← hu]; simp [eN])
theorem lat_take {m : List (Int × Int)} {j : Nat} {p : Int × Int} (h : m[j]? = some p) (id : Int) : lat (m.take (j + 1)) id = if p.1 = id then p.2 else lat (m.take j) id := by
  unfold lat
  rw [List.take_add_one, h, List.foldl_append]
  rfl
set_option maxRecDepth 100000 in
set_option maxHeartbeats 800000 in
theorem lastAt_any (v : Value) (m : List (Int × Int)) (id : Int) (w : World) (h : eI.Rx w v m) (hl : m.length ≤ 9223372036854775807) :
    Calls Try.prog 79 #[v, .int .i64 id] w fun e w' => e = .returned (.int .i64 (lat m id)) ∧ w.grownBy w' none := by
  obtain ⟨ad, cp, hv⟩ := h.form
  subst hv
  obtain ⟨N, hN⟩ : ∃ N, m.length = N := ⟨_, rfl⟩
  have NL : Hid (m.length = N) := hN
  rw [hN] at h hl ⊢
  have H : Hid (eI.Rx w (.slice ad N cp) m) := h
  clear h hN
  generalize hB : lat m id = B
  have HB : Hid (lat m id = B) := hB
  clear hB
  go_enter Try.func79, Try.ntmps79
  go_wp2_with fail
  go_loopw [5, 7, 10] (fun b _ i wr => ∃ (j : Nat) (p : Int), j ≤ N ∧ i = .int .i64 (j : Int) ∧ b = .int .i64 p ∧ Hid (lat (m.take j) id = p) ∧ Hid (w.grownBy wr none)) (fun _ _ i _ => N - (intOf i).toNat)
  case atStart => exact ⟨0, 0, by omega, rfl, rfl, (rfl : lat (m.take 0) id = 0), grown_refl _ _⟩
  case round =>
    obtain ⟨j, p, hj, rfl, rfl, LP, G⟩ := hrel
    by_cases hlt : j < N
    · obtain ⟨y, hy⟩ : ∃ y, m[j]? = some y := ⟨_, List.getElem?_eq_getElem (by rw [NL.out]; exact hlt)⟩
      obtain ⟨g, o, rfl, y0, y1⟩ := at_i (H.out.grown G.out) hy
      obtain ⟨yi, ya⟩ := y
      simp only at y0 y1
      have LT := lat_take hy id
      simp only [LP.out] at LT
      cases hs : (yi == id) with
      | true =>
        rw [if_pos (by simpa using hs)] at LT
        have L2 : Hid (lat (m.take (j + 1)) id = ya) := LT
        clear hy LP LT
        go_wp2_with fail
        go_roundw
        case rel => exact ⟨j + 1, ya, by omega, by go_num, rfl, L2, grown_tr G.out (World.grownBy_alloc wr _ none)⟩
        case measure => simp [intOf]; omega
      | false =>
        rw [if_neg (by simpa using hs)] at LT
        have L2 : Hid (lat (m.take (j + 1)) id = p) := LT
        clear hy LP LT
        go_wp2_with fail
        go_roundw
        case rel => exact ⟨j + 1, p, by omega, by go_num, rfl, L2, grown_tr G.out (World.grownBy_alloc wr _ none)⟩
        case measure => simp [intOf]; omega
    · have E : Hid (B = p) := by
        have := LP.out
        rw [List.take_of_length_le (by rw [NL.out]; omega)] at this
        rw [← HB.out]
        exact this
      clear LP
      go_wp2_with fail
      go_ret
      exact ⟨by rw [E.out]; rfl, G.out⟩
set_option maxRecDepth 100000 in
set_option maxHeartbeats 1600000 in
theorem reached_any (v s : Value) (l : List Int) (m : List (Int × Int)) (w : World) (h : eK.Rx w v l) (hl : l.length ≤ 9223372036854775807) (hs : eI.Rx w s m) (hm : m.length ≤ 9223372036854775807) :
    Calls Try.prog 73 #[v, s] w fun e w' => e = .returned (.int .i64 (rea l m)) ∧ w.grownBy w' none := by
  have CK := qcheck_any v l w h hl
  have LA : ∀ x W, w.grownBy W none → _ := fun x W g => lastAt_any s m x W (hs.grown g) hm
  obtain ⟨ad, cp, hv⟩ := h.form
  subst hv
  obtain ⟨aq, cq, hv⟩ := hs.form
  subst hv
  obtain ⟨N, hN⟩ : ∃ N, l.length = N := ⟨_, rfl⟩
  have NL : Hid (l.length = N) := hN
  obtain ⟨M, hM⟩ : ∃ M, m.length = M := ⟨_, rfl⟩
  rw [hM] at LA hs hm ⊢
  rw [hN] at h hl CK ⊢
  have H : Hid (eK.Rx w (.slice ad N cp) l) := h
  clear h hs hN hM hm
  cases hc : chk l with
  | false =>
    have hW : rea l m = 0 := by unfold rea; rw [if_neg (by rw [hc]; simp)]
    rw [hW]
    rw [hc] at CK
    clear LA
    go_enter Try.func73, Try.ntmps73
    go_wp2_with (go_at_call 21; (with_reducible refine CK.mono ?_); rintro e w1 ⟨rfl, rfl⟩)
    go_ret
    exact ⟨rfl, grown_refl _ _⟩
  | true =>
    have hW : rea l m = med (l.map (lat m)) := by unfold rea; rw [if_pos hc]
    rw [hc] at CK
    have h7 : N ≤ 7 := by have := ((chk_iff l).1 hc).2.1; rw [NL.out] at this; exact this
    have h1 : 1 ≤ N := by have := ((chk_iff l).1 hc).1; rw [NL.out] at this; exact this
    rw [hW]
    clear hW hc
    generalize hB : med (l.map (lat m)) = B
    have HB : Hid (med (l.map (lat m)) = B) := hB
    clear hB
    go_enter Try.func73, Try.ntmps73
    go_wp2_with (go_at_call 21; (with_reducible refine CK.mono ?_); rintro e w1 ⟨rfl, rfl⟩)
    clear CK
    go_loopw [5, 7, 13] (fun b _ i wr => ∃ (j : Nat) (a5 : Option Addr) (c5 : Nat), j ≤ N ∧ i = .int .i64 (j : Int) ∧ b = .slice a5 j c5 ∧ Hid (eN.Own wr w1.heap.size (.slice a5 j c5) ((l.take j).map (lat m))) ∧ Hid (w1.grownBy wr none)) (fun _ _ i _ => N - (intOf i).toNat)
    case atStart => exact ⟨0, none, 0, by omega, rfl, rfl, Elm.nil _ _, grown_refl _ _⟩
    case round =>
      obtain ⟨j, a5, c5, hj, rfl, rfl, O5, G⟩ := hrel
      have hsz := G.out.size
      by_cases hlt : j < N
      · obtain ⟨y, hy⟩ : ∃ y, l[j]? = some y := ⟨_, List.getElem?_eq_getElem (by rw [NL.out]; exact hlt)⟩
        obtain ⟨g, o, rfl, y0⟩ := at_k (H.out.grown G.out) hy
        have LA1 := LA y wr G.out
        have HM : Hid ((l.take j).map (lat m) ++ [lat m y] = (l.take (j + 1)).map (lat m)) := by show _ = _; rw [List.take_add_one, hy]; simp
        have LE : Hid (((l.take j).map (lat m)).length ≤ 7) := by show _ ≤ _; rw [List.length_map, List.length_take]; omega
        have LJ : Hid (((l.take (j + 1)).map (lat m)).length = j + 1) := by show _ = _; rw [List.length_map, List.length_take, NL.out]; omega
        generalize lat m y = Y at LA1 HM
        have OW : Hid (∀ w2 o, wr.grownBy w2 none → eN.Own (w2.alloc o) w1.heap.size (.slice a5 j c5) ((l.take j).map (lat m))) := fun w2 o g => O5.out.grown (grown_alloc g o)
        clear hy LA
        go_wp2_with (first
          | (go_at_call 79; (with_reducible refine LA1.mono ?_); rintro e w2 ⟨rfl, hg2⟩; have hsz2 := hg2.size)
          | (refine Elm.wpList_append (E := eN) rfl (.tmp 17) (.tmp 21) rfl w1.heap.size (.slice a5 j c5) ((l.take j).map (lat m)) rfl (OW.out _ _ hg2) _ [Y] rfl (one_n w2 Y) (by have := LE.out; simp at *; omega) (by have := LE.out; simp [eN] at *; omega) (by simp; omega) ?_; intro a3 n3 c3 w3 hO3 hg3 hl3))
        go_roundw
        case rel =>
          have hn3 : n3 = j + 1 := by have := hO3.len; rw [HM.out, LJ.out] at this; exact this
          subst hn3
          exact ⟨j + 1, a3, c3, by omega, by go_num, rfl, (by rw [← HM.out]; exact hO3 : eN.Own w3 w1.heap.size (.slice a3 (j + 1) c3) ((l.take (j + 1)).map (lat m))), grown_more (grown_alloc (grown_tr G.out hg2) _) hg3 fun k e => .inr (O5.out.lt k e).1⟩
        case measure => simp [intOf]; omega
      · obtain rfl : j = N := by omega
        have O6 : eN.Own wr w1.heap.size (.slice a5 j c5) (l.map (lat m)) := by
          have := O5.out
          rwa [List.take_of_length_le (by rw [NL.out]; omega)] at this
        have LM : (l.map (lat m)).length = j := by rw [List.length_map, NL.out]
        have SO := sortN_any w1.heap.size (.slice a5 j c5) (l.map (lat m)) wr (by rw [LM]; omega) O6
        have hrow : ∀ k, (Value.slice a5 j c5).ownBlock = some k → w1.heap.size ≤ k := fun k hk => (O6.lt k hk).1
        obtain ⟨x, hx⟩ : ∃ x, (srt (l.map (lat m)))[(j - 1) / 2]? = some x := ⟨_, List.getElem?_eq_getElem (by rw [srt_len, LM]; omega)⟩
        have hxB : x = B := by
          have := HB.out
          unfold med at this
          rw [LM, List.getD_eq_getElem?_getD, hx] at this
          exact this
        subst hxB
        have AT : Hid (∀ W, eN.Own W w1.heap.size (.slice a5 j c5) (srt (l.map (lat m))) → ∃ g, a5 = some ⟨g, 0, none⟩ ∧ W.cell? ⟨g, (j - 1) / 2, none⟩ = some (.int .i64 x)) := fun W hO => by
          obtain ⟨g, c, hv, hc, _⟩ := hO.at_ hx
          injection hv with e1 e2 e3
          have := hc 0 _ rfl
          have e : eN.size = 1 := rfl
          rw [e, Nat.mul_one, Nat.add_zero] at this
          exact ⟨g, e1, this⟩
        have d2 : ((j : Int) - 1) / 2 = (((j - 1) / 2 : Nat) : Int) := by omega
        have D2 : Hid (((j : Int) - 1) / 2 = (((j - 1) / 2 : Nat) : Int)) := d2
        clear O5 O6 hx LM LA HB d2
        go_wp2_with (go_at_call 80; (with_reducible refine SO.mono ?_); rintro e w3 ⟨rfl, hO3, hg3⟩; obtain ⟨g, rfl, hx3⟩ := AT.out w3 hO3)
        go_ret
        exact ⟨rfl, grown_more G.out hg3 fun k e => .inr (hrow k e)⟩
end Go.Proofs.Ytdpcebaggldaiaa
