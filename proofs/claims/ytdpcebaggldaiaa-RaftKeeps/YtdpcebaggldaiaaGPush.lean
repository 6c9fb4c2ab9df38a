/- A node at work: places, acks, pushes. -/
import Derived.Test.YtdpcebaggldaiaaGSend
import Derived.Test.YtdpcebaggldaiaaTMore2
namespace Go.Proofs.Ytdpcebaggldaiaa
open Go.RowKit Trl
open Rft (Nd Mg)
set_option linter.unusedVariables false
set_option maxRecDepth 10000

theorem place_at {l : List Int} {j : Nat} {x : Int} (h : l[j]? = some x) (hn : Quo.has (l.take j) x = false) : Rft.place l x = j := by
  unfold Rft.place
  have hj := (List.getElem?_eq_some_iff.1 h).1
  rw [List.findIdx_eq hj]
  refine ⟨by rw [(List.getElem?_eq_some_iff.1 h).2]; simp, fun k hk => ?_⟩
  cases hc : (l[k] == x) with
  | false => rfl
  | true =>
    exfalso
    refine Quo.has_no hn ?_
    have e : l[k] = x := by simpa using hc
    rw [← e, List.mem_take_iff_getElem]
    exact ⟨k, by omega, rfl⟩
theorem place_lt {l : List Int} {x : Int} (h : Quo.has l x = true) : Rft.place l x < l.length := by
  unfold Rft.place
  rw [List.findIdx_lt_length]
  exact ⟨x, (Quo.has_iff l x).1 h, by simp⟩
theorem at_place {l : List Int} {x : Int} (h : Quo.has l x = true) : Rft.at0 l (Rft.place l x) = x := by
  have hl := place_lt h
  unfold Rft.at0
  rw [List.getD_eq_getElem?_getD, List.getElem?_eq_getElem hl]
  have h1 := List.findIdx_getElem (xs := l) (p := fun a => a == x) (w := hl)
  rw [beq_iff_eq] at h1
  exact h1
theorem at0_is {l : List Int} {i : Nat} (h : i < l.length) : l[i]? = some (Rft.at0 l i) := by
  unfold Rft.at0
  rw [List.getD_eq_getElem?_getD, List.getElem?_eq_getElem h]
  rfl
set_option maxRecDepth 100000 in
set_option maxHeartbeats 800000 in
theorem index_is (v : Value) (l : List Int) (x : Int) (w : World) (h : eK.Rx w v l) (hl : l.length ≤ 9223372036854775807) (hx : Quo.has l x = true) :
    Calls Try.prog 41 #[v, .int .i64 x] w fun e w' => e = .returned (.int .i64 (Rft.place l x : Nat)) ∧ w' = w := by
  obtain ⟨ad, cp, hv⟩ := h.form
  subst hv
  obtain ⟨N, hN⟩ : ∃ N, l.length = N := ⟨_, rfl⟩
  have NL : Hid (l.length = N) := hN
  rw [hN] at h hl ⊢
  have H : Hid (eK.Rx w (.slice ad N cp) l) := h
  have HX : Hid (Quo.has l x = true) := hx
  obtain ⟨P, hP⟩ : ∃ P, Rft.place l x = P := ⟨_, rfl⟩
  have HP : Hid (Rft.place l x = P) := hP
  rw [hP]
  clear h hN hx hP
  go_enter Try.func41, Try.ntmps41
  go_wp2_with fail
  go_loopw [5, 8] (fun _ i wr => ∃ j : Nat, j ≤ N ∧ i = .int .i64 (j : Int) ∧ Hid (Quo.has (l.take j) x = false) ∧ wr = w) (fun _ i _ => N - (intOf i).toNat)
  case atStart => exact ⟨0, by omega, rfl, (rfl : Quo.has (l.take 0) x = false), rfl⟩
  case round =>
    obtain ⟨j, hj, rfl, I, rfl⟩ := hrel
    by_cases hlt : j < N
    · obtain ⟨y, hy⟩ : ∃ y, l[j]? = some y := ⟨_, List.getElem?_eq_getElem (by rw [NL.out]; exact hlt)⟩
      obtain ⟨g, o, rfl, y0⟩ := at_k H.out hy
      cases hs : (x == y) with
      | true =>
        have FN : Hid (P = j) := by
          have e : x = y := by simpa using hs
          subst e
          exact HP.out.symm.trans (place_at hy I.out)
        clear hy
        go_wp2_with fail
        go_ret
        exact ⟨by rw [FN.out]; rfl, rfl⟩
      | false =>
        have hyx : (y == x) = false := by rw [← hs]; exact BEq.comm
        have I2 : Hid (Quo.has (l.take (j + 1)) x = false) := by show _ = _; rw [Quo.has_take hy, I.out, hyx]; rfl
        clear hy I hyx
        go_wp2_with fail
        go_roundw
        case rel => exact ⟨j + 1, by omega, by go_num, I2, trivial⟩
        case measure => simp [intOf]; omega
    · exfalso
      have := I.out
      rw [List.take_of_length_le (by rw [NL.out]; omega), HX.out] at this
      cases this
theorem conf_len {c : List Int} (h : Quo.chk c = true) : c.length ≤ 7 := ((Quo.chk_iff c).1 h).2.1
set_option maxRecDepth 100000 in
theorem place_w {w : World} {base b : Nat} {r : Nd} {X : List (Mg × S3)} {V : Sv} {s : S3} {T : Nat → Nat} (x : Int) (h : Oc w base b r X V s T) (hl : r.conf.length ≤ 7) (hx : Quo.has r.conf x = true) :
    Calls Try.prog 59 #[.pointer (some ⟨b, 0, none⟩), .int .i64 x] w fun e w' => e = .returned (.int .i64 (Rft.place r.conf x : Nat)) ∧ w' = w := by
  have IX := index_is _ r.conf x w h.c.rx (by omega) hx
  have c1 := h.cs.at_ 1 rfl
  clear h hx
  generalize Rft.place r.conf x = P at *
  go_enter Try.func59, Try.ntmps59
  go_wp2_with (go_at_call 41; (with_reducible refine IX.mono ?_); rintro e w1 ⟨rfl, h1⟩; subst h1)
  go_ret
  exact ⟨rfl, rfl⟩
/-- A message without entries. -/
theorem send_o {w : World} {base b : Nat} {r : Nd} {L : List Mg} {c : S3} (g : Mg) (to_ : Int) (h : Ob w base b r L c) (he : g.es = []) (hL : L.length ≤ 4096) :
    Calls Try.prog 50 #[.pointer (some ⟨b, 0, none⟩), .int .i64 to_, .agg #[.int .i64 g.kind, .int .i64 g.fm, .int .i64 g.tt, .int .i64 g.term, .int .i64 g.index, .int .i64 g.logt, .int .i64 g.com, .bool g.yes, .slice none 0 0, .string g.data]] w fun e w' => e = .returned (.tuple #[]) ∧ Ob w' base b r (L ++ [sent r g to_]) c ∧ Kp base w w' := by
  obtain ⟨X, V, s, T, h, rfl, rfl⟩ := h
  exact send_w g nil3 to_ h (by rw [he]; exact Row.nil) (by simpa using hL)
/-- A message with entries that were made just now. -/
theorem send_e {w0 w : World} {base b : Nat} {r : Nd} {L : List Mg} {c : S3} (g : Mg) (u : S3) (to_ : Int) (h : Ob w0 base b r L c) (gr : w0.grownBy w none) (he : eE.Own w w0.heap.size (.slice u.a u.n u.c) g.es) (hL : L.length ≤ 4096) :
    Calls Try.prog 50 #[.pointer (some ⟨b, 0, none⟩), .int .i64 to_, mv g u] w fun e w' => e = .returned (.tuple #[]) ∧ Ob w' base b r (L ++ [sent r g to_]) c ∧ Kp base w w' := by
  obtain ⟨X, V, s, T, h, rfl, rfl⟩ := h
  have hb := h.hb
  have hlt := h.cs.2.2
  refine send_w g u to_ ((h.retag (tag_more T w0.heap.size 1)).grown gr) (.inl ⟨he.low (by omega), fun k hk => if_neg (by have := (he.lt k hk).1; omega)⟩) (by simpa using hL)
set_option maxRecDepth 100000 in
theorem ack_o {w : World} {base b : Nat} {r : Nd} {L : List Mg} {c : S3} (to_ : Int) (yes : Bool) (n : Int) (h : Ob w base b r L c) (hL : L.length ≤ 4096) :
    Calls Try.prog 51 #[.pointer (some ⟨b, 0, none⟩), .int .i64 to_, .bool yes, .int .i64 n] w fun e w' => e = .returned (.tuple #[]) ∧ Ob w' base b r (L ++ [sent r { Rft.mg0 with kind := 4, yes := yes, index := n } to_]) c ∧ Kp base w w' := by
  have SE := send_o { Rft.mg0 with kind := 4, yes := yes, index := n } to_ h rfl hL
  simp only [Rft.mg0] at SE ⊢
  clear h
  go_enter Try.func51, Try.ntmps51
  go_wp2_with (go_at_call 50; (with_reducible refine SE.mono ?_); rintro e w1 ⟨rfl, h1, h2⟩)
  go_end0
  exact ⟨rfl, h1, h2⟩
set_option maxRecDepth 100000 in
set_option maxHeartbeats 1600000 in
theorem push_o {w : World} {base b : Nat} {r : Nd} {L : List Mg} {c : S3} (i : Nat) (h : Ob w base b r L c) (hk : chk r.b r.k r.l = true) (hi : i < r.conf.length) (hn : r.next.length = r.conf.length) (hc7 : r.conf.length ≤ 7) (hn2 : Rft.at0 r.next i ≤ r.last + 1) (hn0 : 0 ≤ Rft.at0 r.next i) (hL : L.length ≤ 4096) :
    Calls Try.prog 60 #[.pointer (some ⟨b, 0, none⟩), .int .i64 (i : Int)] w fun e w' => e = .returned (.tuple #[]) ∧ Ob w' base b r (Rft.push r L i) c ∧ Kp base w w' := by
  obtain ⟨X, V, s, T, h0, hX, rfl⟩ := id h
  obtain ⟨p1, p2, p3, p4, p5, p6, p7⟩ := chk_parts hk
  have lN := h0.n.len
  have lC := h0.c.len
  obtain ⟨gn, on, ean, x12⟩ := at_n h0.n.rx (at0_is (l := r.next) (i := i) (by omega))
  obtain ⟨gc, oc_, eac, x1⟩ := at_k h0.c.rx (at0_is hi)
  have c14 := h0.cs.at_ 14 rfl
  have c1 := h0.cs.at_ 1 rfl
  obtain ⟨c6, c7, c8⟩ := at_log h0
  have c9 := h0.cs.at_ 9 rfl
  have c10 := h0.cs.at_ 10 rfl
  have iN : (i : Int) < (V.n.n : Int) := by omega
  have iC : (i : Int) < (V.c.n : Int) := by omega
  unfold Rft.push Rft.say Rft.pushM
  generalize hnx : Rft.at0 r.next i = nx at *
  generalize hcx : Rft.at0 r.conf i = cx at *
  by_cases hb : nx ≤ r.b
  · rw [if_pos hb]
    have SE : Hid (∀ W, w.grownBy W none → _) := fun W g => send_o { Rft.mg0 with kind := 5, index := r.b, logt := r.k, data := r.snap } cx (h.grown g) rfl hL
    simp only [Rft.mg0, sent] at SE ⊢
    clear h h0 hk p7
    rw [ean] at c14
    rw [eac] at c1
    go_enter Try.func60, Try.ntmps60
    go_upto_region 2 with fail
    refine region_tail 27 (by kernel_rfl) (by kernel_rfl) ?_
    simp only [List.take_succ_cons, List.take_zero, List.drop_succ_cons, List.drop_zero]
    iterate 27 still_step
    refine wpStill_nil ?_
    go_wp2_with (go_at_call 50; (with_reducible refine (SE.out _ (grown_drew (grown_refl w none))).mono ?_); rintro e w1 ⟨rfl, h1, h2⟩)
    refine bodyPost_ret (results_none rfl _ _ _) rfl ?_
    exact ⟨rfl, h1, (Kp.of (grown_drew (grown_refl w none))).trans h2⟩
  · rw [if_neg hb]
    have TM : Hid (∀ W, w.grownBy W none → _) := fun W g => Term_any r.b r.k (nx - 1) _ r.l W ((Sl.row h0.e).grown g) hk
    have hl : r.last = r.b + (r.l.length : Int) := rfl
    have tin : r.b ≤ nx - 1 ∧ nx - 1 ≤ r.b + (r.l.length : Int) := by omega
    rw [show tm0 r.b r.k r.l (nx - 1) = tm r.b r.k r.l (nx - 1) from if_pos tin] at TM
    have SL : Hid (∀ W, w.grownBy W none → _) := fun W g => Slice_any r.b r.k nx _ r.l W ((Sl.row h0.e).grown g) hk (by omega) (by omega)
    obtain ⟨D, hD⟩ : ∃ D, (r.l.drop (nx - 1 - r.b).toNat).take 8 = D := ⟨_, rfl⟩
    obtain ⟨q, hq⟩ : ∃ q, tm r.b r.k r.l (nx - 1) = q := ⟨_, rfl⟩
    rw [hD] at SL ⊢
    rw [hq] at TM ⊢
    have SE : Hid (∀ (W W' : World) (u : S3), w.grownBy W none → W.grownBy W' none → eE.Own W' W.heap.size (.slice u.a u.n u.c) D → Calls Try.prog 50 #[.pointer (some ⟨b, 0, none⟩), .int .i64 cx, .agg #[.int .i64 3, .int .i64 0, .int .i64 0, .int .i64 0, .int .i64 (nx - 1), .int .i64 q, .int .i64 r.com, .bool false, .slice u.a u.n u.c, .string ⟨#[]⟩]] W' fun e w' => e = .returned (.tuple #[]) ∧ Ob w' base b r (L ++ [sent r { Rft.mg0 with kind := 3, index := nx - 1, logt := q, com := r.com, es := D } cx]) V.c ∧ Kp base W' w') := fun W W' u g g' hO => send_e { Rft.mg0 with kind := 3, index := nx - 1, logt := q, com := r.com, es := D } u cx (h.grown g) g' hO hL
    simp only [Rft.mg0, sent] at SE ⊢
    have CC : Hid (∀ {W : World}, w.grownBy W none → W.cell? ⟨b, 1, none⟩ = some (.slice V.c.a V.c.n V.c.c) ∧ W.cell? ⟨gc, oc_ + i, none⟩ = some (.int .i64 cx) ∧ W.cell? ⟨b, 10, none⟩ = some (.int .i64 r.com)) := fun {W} g => ⟨g.cell c1 (by simp), g.cell x1 (by simp), g.cell c10 (by simp)⟩
    have LC : Hid (∀ {W : World}, w.grownBy W none → W.cell? ⟨b, 6, none⟩ = some (.int .i64 r.b) ∧ W.cell? ⟨b, 7, none⟩ = some (.int .i64 r.k) ∧ W.cell? ⟨b, 8, none⟩ = some (.slice V.e.a V.e.n V.e.c)) := fun {W} g => at_log (h0.grown g)
    have wr1 : IntKind.i64.wrap (nx - 1) = nx - 1 := by rw [IntKind.wrap_i64]; omega
    clear h h0 hk p7 hl tin hD hq
    rw [ean] at c14
    rw [eac] at c1 CC
    go_enter Try.func60, Try.ntmps60
    go_upto_region 5 with (first
      | (go_at_call 70; (with_reducible refine (TM.out _ (grown_refl w none)).mono ?_); rintro e w1 ⟨rfl, g1⟩; obtain ⟨d6, d7, d8⟩ := LC.out g1)
      | (go_at_call 72; (with_reducible refine (SL.out _ g1).mono ?_); rintro e w2 ⟨s2, rfl, hO2, g2⟩; have G2 := grown_tr g1 g2; obtain ⟨e1, e2, e3⟩ := CC.out G2))
    have SE2 := SE.out w1 w2.drew s2 g1 (grown_drew g2) hO2
    clear c6 c7 c8 c9 c14 c10 x12 x1 c1 d6 d7 d8
    refine region_tail 19 (by kernel_rfl) (by kernel_rfl) ?_
    simp only [List.take_succ_cons, List.take_zero, List.drop_succ_cons, List.drop_zero]
    iterate 19 still_step
    refine wpStill_nil ?_
    go_wp2_with (go_at_call 50; (with_reducible refine SE2.mono ?_); rintro e w3 ⟨rfl, h1, h2⟩)
    go_end0
    exact ⟨rfl, h1, (Kp.of (grown_drew G2)).trans h2⟩
/-- May be pushed to all: the log is right, each number to be sent is one of it or the next. -/
structure Pushes (r : Nd) : Prop where
  log : chk r.b r.k r.l = true
  conf : r.conf.length ≤ 7
  len : r.next.length = r.conf.length
  next : ∀ i, i < r.conf.length → 0 ≤ Rft.at0 r.next i ∧ Rft.at0 r.next i ≤ r.last + 1
theorem pushTo_len (r : Nd) (L : List Mg) : ∀ j, (Rft.pushTo r L j).length ≤ L.length + j
  | 0 => by simp [Rft.pushTo]
  | j + 1 => by
    have := pushTo_len r L j
    unfold Rft.pushTo
    split
    · omega
    · unfold Rft.push Rft.say
      rw [List.length_append]
      simp
      omega
set_option maxRecDepth 100000 in
set_option maxHeartbeats 1600000 in
theorem pushAll_o {w : World} {base b : Nat} {r : Nd} {L : List Mg} {c : S3} (h : Ob w base b r L c) (hp : Pushes r) (hL : L.length ≤ 4000) :
    Calls Try.prog 38 #[.pointer (some ⟨b, 0, none⟩)] w fun e w' => e = .returned (.tuple #[]) ∧ Ob w' base b r (Rft.pushAll r L) c ∧ Kp base w w' := by
  have hC : Hid (∀ {W : World} {L' : List Mg}, Ob W base b r L' c → eK.Rx W (.slice c.a c.n c.c) r.conf ∧ c.n = r.conf.length ∧ W.cell? ⟨b, 0, none⟩ = some (.int .i64 r.id) ∧ W.cell? ⟨b, 1, none⟩ = some (.slice c.a c.n c.c)) := fun {W L'} h => by
    obtain ⟨X, V, s, T, h0, hX, rfl⟩ := h
    exact ⟨h0.c.rx, h0.c.len, h0.cs.at_ 0 rfl, h0.cs.at_ 1 rfl⟩
  have PU : Hid (∀ (W : World) (L' : List Mg) (i : Nat), Ob W base b r L' c → i < r.conf.length → L'.length ≤ 4096 → _) := fun W L' i hO hi hl => push_o i hO hp.log hi hp.len hp.conf (hp.next i hi).2 (hp.next i hi).1 hl
  have h7 := hp.conf
  obtain ⟨_, cn, c0, c1⟩ := hC.out h
  unfold Rft.pushAll
  obtain ⟨N, hN⟩ : ∃ N, r.conf.length = N := ⟨_, rfl⟩
  have NL : Hid (r.conf.length = N) := hN
  rw [hN] at cn h7 PU ⊢
  have H : Hid (Ob w base b r L c) := h
  have PL : Hid (∀ j, (Rft.pushTo r L j).length ≤ L.length + j) := pushTo_len r L
  have CN : Hid (c.n = N) := cn
  rw [cn] at c1
  clear h hN hp cn
  go_enter Try.func38, Try.ntmps38
  go_wp2_with fail
  clear c0 c1
  go_loopw [2, 3, 10] (fun _ _ i wr => ∃ j : Nat, j ≤ N ∧ i = .int .i64 (j : Int) ∧ Hid (Ob wr base b r (Rft.pushTo r L j) c) ∧ Hid (Kp base w wr)) (fun _ _ i _ => N - (intOf i).toNat)
  case atStart => exact ⟨0, by omega, rfl, H.out, Kp.refl _ _⟩
  case round =>
    obtain ⟨j, hj, rfl, O, K⟩ := hrel
    by_cases hlt : j < N
    · obtain ⟨hrx, _, d0, _⟩ := hC.out O.out
      rw [CN.out] at hrx
      obtain ⟨g, o, eq, y0⟩ := at_k hrx (at0_is (l := r.conf) (i := j) (by rw [NL.out]; exact hlt))
      rw [eq]
      by_cases hid : Rft.at0 r.conf j = r.id
      · have E : Hid (Rft.pushTo r L (j + 1) = Rft.pushTo r L j) := by show _ = _; rw [Rft.pushTo, if_pos hid]
        have hid2 : (Rft.at0 r.conf j != r.id) = false := by simpa using hid
        generalize Rft.at0 r.conf j = x at *
        clear hrx
        go_wp2_with fail
        go_roundw
        case rel => exact ⟨j + 1, by omega, by go_num, by rw [E.out]; exact O, K⟩
        case measure => simp [intOf]; omega
      · have E : Hid (Rft.pushTo r L (j + 1) = Rft.push r (Rft.pushTo r L j) j) := by show _ = _; rw [Rft.pushTo, if_neg hid]
        have hid2 : (Rft.at0 r.conf j != r.id) = true := by simpa using hid
        have P1 := PU.out wr _ j O.out hlt (by have := PL.out j; omega)
        rw [← E.out] at P1
        generalize Rft.at0 r.conf j = x at *
        clear hrx
        go_wp2_with (go_at_call 60; (with_reducible refine P1.mono ?_); rintro e w1 ⟨rfl, h1, h2⟩)
        go_roundw
        case rel => exact ⟨j + 1, by omega, by go_num, h1, K.out.trans h2⟩
        case measure => simp [intOf]; omega
    · have E : Hid (j = N) := by show _ = _; omega
      go_wp2_with fail
      go_end0
      exact ⟨rfl, by rw [← E.out]; exact O.out, K.out⟩
end Go.Proofs.Ytdpcebaggldaiaa
