/- The reference's Jobs, Result, Books. -/
import Derived.Test.YtdekeibnehoeaaaSRow
namespace Go.Proofs.Ytdekeibnehoeaaa
open Go.RowKit Sea
set_option linter.unusedVariables false
set_option maxRecDepth 10000

/-- Two jobs are alike, byte by byte. -/
def jeq (a b : Jb) : Bool := decide (a.nm.toList = b.nm.toList) && decide (a.ex.toList = b.ex.toList) && decide (a.zn.toList = b.zn.toList) && decide (a.tk.toList = b.tk.toList) && decide (a.cl = b.cl) && decide (a.sq = b.sq) && decide (a.ps = b.ps) && decide (a.ma = b.ma)
theorem jeq_self (a : Jb) : jeq a a = true := by simp [jeq]
set_option maxRecDepth 100000 in
theorem neq_jobs (a b : Jb) (w : World) : (binOp .neq 55 (jv a) (jv b)).run Try.prog w = .ok (.bool (!jeq a b)) w := by
  cases h : jeq a b with
  | false =>
    go_simp
    intro h1 h2 h3 h4 h5 h6 h7 h8
    simp [jeq, h1, h2, h3, h4, h5, h6, h7, h8] at h
  | true =>
    simp [jeq] at h
    go_simp
    all_goals simp only [h]
/-- What a comparison answers: true where both are alike. -/
def SameA (P : Prop) (w : World) (e : Ending) (w' : World) : Prop := ∃ x : Bool, e = .returned (.bool x) ∧ (P → x = true) ∧ w.grownBy w' none
theorem range_j {w : World} {ad : Option Addr} {N c : Nat} {X : List Jb} {i : Nat} {x : Jb} (h : eJ.Rx w (.slice ad N c) X) (hi : X[i]? = some x) : ∃ g o, ad = some ⟨g, o, none⟩ ∧ w.rangeAt g (o + i * 8) (jc x) := by
  obtain ⟨g, o, c, h1, h2⟩ := h.at_ hi
  injection h1 with h1 _ _
  exact ⟨g, o, h1, h2⟩
theorem cells_j {w : World} {q o : Nat} {j : Jb} (h : w.rangeAt q o (jc j)) : w.cell? ⟨q, o, none⟩ = some (.string j.nm) ∧ w.cell? ⟨q, o + 1, none⟩ = some (.string j.ex) ∧ w.cell? ⟨q, o + 2, none⟩ = some (.string j.zn) ∧ w.cell? ⟨q, o + 3, none⟩ = some (.string j.tk) ∧ w.cell? ⟨q, o + 4, none⟩ = some (.int .i64 j.cl) ∧ w.cell? ⟨q, o + 5, none⟩ = some (.int .i64 j.sq) ∧ w.cell? ⟨q, o + 6, none⟩ = some (.bool j.ps) ∧ w.cell? ⟨q, o + 7, none⟩ = some (.int .i64 j.ma) :=
  ⟨h 0 _ rfl, h 1 _ rfl, h 2 _ rfl, h 3 _ rfl, h 4 _ rfl, h 5 _ rfl, h 6 _ rfl, h 7 _ rfl⟩
set_option maxRecDepth 100000 in
set_option maxHeartbeats 1600000 in
theorem Jobs_any (u v : S3) (l m : List Jb) (w : World) (h : Rdj w u l) (k : Rdj w v m) :
    Calls Try.prog 25 #[.slice u.a u.n u.c, .slice v.a v.n v.c] w fun e w' => SameA (l = m) w e w' := by
  obtain ⟨ha, hn, hb⟩ := h
  obtain ⟨ka, kn, kb⟩ := k
  obtain ⟨ua, un, uc⟩ := u
  obtain ⟨va, vn, vc⟩ := v
  simp only at ha hn ka kn ⊢
  have hub : un ≤ 9223372036854775807 := by omega
  have hvb : vn ≤ 9223372036854775807 := by omega
  have NJ := neq_jobs
  by_cases hne : un = vn
  · subst hne
    have HA : Hid (∀ W, w.grownBy W none → eJ.Rx W (.slice ua un uc) l) := fun W g => ha.grown g
    have KA : Hid (∀ W, w.grownBy W none → eJ.Rx W (.slice va un vc) m) := fun W g => ka.grown g
    have HN : Hid (un = l.length) := hn
    have KN : Hid (un = m.length) := kn
    clear ha ka hn kn hb kb
    have G0 : Hid (w.grownBy w none) := grown_refl _ _
    go_enter Try.func25, Try.ntmps25
    go_wp2_with fail
    go_loopw [5] (fun i wr => ∃ (j : Nat), j ≤ un ∧ i = .int .i64 (j : Int) ∧ Hid (w.grownBy wr none)) (fun i _ => un - (intOf i).toNat)
    case atStart => exact ⟨0, by omega, rfl, G0⟩
    case round =>
      clear G0
      obtain ⟨j, hj, rfl, G⟩ := hrel
      by_cases hlt : j < un
      · obtain ⟨x, hx⟩ : ∃ y, l[j]? = some y := ⟨_, List.getElem?_eq_getElem (by rw [← HN.out]; exact hlt)⟩
        obtain ⟨y, hy⟩ : ∃ y, m[j]? = some y := ⟨_, List.getElem?_eq_getElem (by rw [← KN.out]; exact hlt)⟩
        obtain ⟨g1, o1, a1, r1⟩ := range_j (HA.out wr G.out) hx
        obtain ⟨g2, o2, a2, r2⟩ := range_j (KA.out wr G.out) hy
        obtain ⟨p0, p1, p2, p3, p4, p5, p6, p7⟩ := cells_j r1
        obtain ⟨q0, q1, q2, q3, q4, q5, q6, q7⟩ := cells_j r2
        have NQ := NJ x y
        have EX : Hid (l = m → jeq x y = true) := fun e => by
          rw [← e, hx] at hy
          injection hy with hy
          rw [hy]
          exact jeq_self y
        subst a1 a2
        clear hx hy r1 r2 NJ
        cases hq : jeq x y with
        | false =>
          have F : Hid (¬ l = m) := fun e => by have := EX.out e; rw [hq] at this; cases this
          rw [hq] at NQ
          clear hq EX
          go_wp2_with fail
          go_quiet (fail)
          go_wp2_with fail
          go_ret
          exact ⟨false, rfl, fun e => absurd e F.out, grown_drewN G.out _⟩
        | true =>
          rw [hq] at NQ
          clear hq EX
          go_wp2_with fail
          go_quiet (fail)
          go_wp2_with fail
          go_roundw
          case rel => exact ⟨j + 1, by omega, by go_num, grown_drewN G.out _⟩
          case measure => simp [intOf]; omega
      · go_wp2_with fail
        go_ret
        exact ⟨true, rfl, fun _ => rfl, G.out⟩
  · have F : Hid (¬ l = m) := fun e => hne (by rw [hn, kn, e])
    have d : ((un : Int) != (vn : Int)) = true := by simp; omega
    clear ha ka hn kn hb kb NJ
    go_enter Try.func25, Try.ntmps25
    go_wp2_with fail
    go_ret
    exact ⟨false, rfl, fun e => absurd e F.out, grown_refl _ _⟩
theorem two_r {w W : World} {e1 t1 e2 t2 : Int} {u v : S3} (g : ((w.alloc (.cells #[.int .i64 e1, .int .i64 t1, .slice u.a u.n u.c] 26)).alloc (.cells #[.int .i64 e2, .int .i64 t2, .slice v.a v.n v.c] 26)).grownBy W none) :
    (W.cell? ⟨w.heap.size, 0, none⟩ = some (.int .i64 e1) ∧ W.cell? ⟨w.heap.size, 1, none⟩ = some (.int .i64 t1) ∧ W.cell? ⟨w.heap.size, 2, none⟩ = some (.slice u.a u.n u.c)) ∧ (W.cell? ⟨w.heap.size + 1, 0, none⟩ = some (.int .i64 e2) ∧ W.cell? ⟨w.heap.size + 1, 1, none⟩ = some (.int .i64 t2) ∧ W.cell? ⟨w.heap.size + 1, 2, none⟩ = some (.slice v.a v.n v.c)) ∧ w.grownBy W none := by
  have e : (w.alloc (.cells #[.int .i64 e1, .int .i64 t1, .slice u.a u.n u.c] 26)).heap.size = w.heap.size + 1 := by simp
  have k1 := cs_new (grown_tr (World.grownBy_alloc _ _ none) g)
  have k2 := cs_new g
  rw [e] at k2
  exact ⟨⟨k1.1 0 _ rfl, k1.1 1 _ rfl, k1.1 2 _ rfl⟩, ⟨k2.1 0 _ rfl, k2.1 1 _ rfl, k2.1 2 _ rfl⟩, grown_tr (World.grownBy_alloc _ _ none) (grown_tr (World.grownBy_alloc _ _ none) g)⟩
set_option maxRecDepth 100000 in
set_option maxHeartbeats 1600000 in
theorem Result_any (s t : Sn) (u v : S3) (w : World) (h : Rdj w u s.js) (k : Rdj w v t.js) :
    Calls Try.prog 14 #[rv s u, rv t v] w fun e w' => SameA (s.er = t.er ∧ s.tm = t.tm ∧ s.js = t.js) w e w' := by
  have JA : Hid (∀ W, w.grownBy W none → _) := fun W g => Jobs_any u v s.js t.js W (h.grown g) (k.grown g)
  obtain ⟨W1, hW1⟩ : ∃ W1, W1 = (w.alloc (.cells #[.int .i64 s.er, .int .i64 s.tm, .slice u.a u.n u.c] 26)).alloc (.cells #[.int .i64 t.er, .int .i64 t.tm, .slice v.a v.n v.c] 26) := ⟨_, rfl⟩
  have HW1 : Hid (W1 = _) := hW1
  obtain ⟨⟨a0, a1, a2⟩, ⟨b0, b1, b2⟩, gw⟩ := two_r (grown_refl ((w.alloc (.cells #[.int .i64 s.er, .int .i64 s.tm, .slice u.a u.n u.c] 26)).alloc (.cells #[.int .i64 t.er, .int .i64 t.tm, .slice v.a v.n v.c] 26)) none)
  rw [← hW1] at a0 a1 a2 b0 b1 b2 gw
  have G1 : Hid (w.grownBy W1 none) := gw
  clear h k hW1 gw
  by_cases he : s.er = t.er
  · by_cases ht : s.tm = t.tm
    · have d1 : (s.er == t.er) = true := by simpa using he
      have d2 : (s.tm == t.tm) = true := by simpa using ht
      have HE : Hid (s.er = t.er ∧ s.tm = t.tm) := (⟨he, ht⟩ : _ ∧ _)
      clear he ht
      go_enter Try.func14, Try.ntmps14
      go_upto_region 1 with fail
      rw [← HW1.out]
      go_wp2_with (go_at_call 25; (with_reducible refine (JA.out _ G1.out).mono ?_); rintro e w2 ⟨x, rfl, hx, g2⟩; have HX : Hid (s.js = t.js → x = true) := hx; clear hx)
      go_ret
      exact ⟨x, rfl, fun h => HX.out h.2.2, grown_tr G1.out g2⟩
    · have d1 : (s.er == t.er) = true := by simpa using he
      have d2 : (s.tm == t.tm) = false := by simpa using ht
      have HT : Hid (¬ s.tm = t.tm) := ht
      clear he ht
      go_enter Try.func14, Try.ntmps14
      go_upto_region 1 with fail
      rw [← HW1.out]
      go_wp2_with fail
      go_ret
      exact ⟨false, rfl, fun h => absurd h.2.1 HT.out, G1.out⟩
  · have d1 : (s.er == t.er) = false := by simpa using he
    have HT : Hid (¬ s.er = t.er) := he
    clear he
    go_enter Try.func14, Try.ntmps14
    go_upto_region 1 with fail
    rw [← HW1.out]
    go_wp2_with fail
    go_ret
    exact ⟨false, rfl, fun h => absurd h.1 HT.out, G1.out⟩
set_option maxRecDepth 100000 in
set_option maxHeartbeats 1600000 in
theorem Books_same (va vb : Value) (X Y : List (Sn × S3)) (w : World) (ha : Bk w va X) (hb : Bk w vb Y) (he : X.map (·.1) = Y.map (·.1)) (hl : X.length ≤ 9223372036854775807) :
    Calls Try.prog 15 #[va, vb] w fun e w' => e = .returned (.bool true) ∧ w.grownBy w' none := by
  have hll : X.length = Y.length := by have := congrArg List.length he; simpa using this
  obtain ⟨ad, cp, hv⟩ := ha.form
  obtain ⟨bd, bp, hv2⟩ := hb.form
  subst hv hv2
  rw [← hll] at hb ⊢
  have RE := Result_any
  have ME : Hid (∀ (W : World) (j : Nat), w.grownBy W none → j < X.length → ∃ s g1 o1 u1 g2 o2 u2, ad = some ⟨g1, o1, none⟩ ∧ bd = some ⟨g2, o2, none⟩ ∧ W.rangeAt g1 (o1 + j * 5) (sc (s, u1)) ∧ W.rangeAt g2 (o2 + j * 5) (sc (s, u2)) ∧ Calls Try.prog 14 #[rv s u1, rv s u2] W fun e w' => e = .returned (.bool true) ∧ W.grownBy w' none) := fun W j gr hj => by
    obtain ⟨⟨x, xu⟩, hx⟩ : ∃ y, X[j]? = some y := ⟨_, List.getElem?_eq_getElem (by omega)⟩
    obtain ⟨⟨y, yu⟩, hy⟩ : ∃ y, Y[j]? = some y := ⟨_, List.getElem?_eq_getElem (by omega)⟩
    have exy : x = y := by
      have h1 : (X.map (·.1))[j]? = some x := by simp [hx]
      rw [he] at h1
      have h2 : (Y.map (·.1))[j]? = some y := by simp [hy]
      rw [h1] at h2
      injection h2
    subst exy
    obtain ⟨g1, o1, e1, r1⟩ := range_at (ha.grown gr).1 hx
    obtain ⟨g2, o2, e2, r2⟩ := range_at (hb.grown gr).1 hy
    refine ⟨x, g1, o1, xu, g2, o2, yu, e1, e2, r1, r2, ?_⟩
    refine (RE x x xu yu W ((ha.grown gr).2 _ (List.mem_of_getElem? hx)) ((hb.grown gr).2 _ (List.mem_of_getElem? hy))).mono ?_
    rintro e w2 ⟨b, rfl, hb, g2⟩
    exact ⟨by rw [hb ⟨rfl, rfl, rfl⟩], g2⟩
  clear ha hb he hll RE
  generalize X.length = N at *
  go_enter Try.func15, Try.ntmps15
  go_wp2_with fail
  go_loopw [5] (fun i wr => ∃ (j : Nat), j ≤ N ∧ i = .int .i64 (j : Int) ∧ Hid (w.grownBy wr none)) (fun i _ => N - (intOf i).toNat)
  case atStart => exact ⟨0, by omega, rfl, grown_refl _ _⟩
  case round =>
    obtain ⟨j, hj, rfl, G⟩ := hrel
    by_cases hlt : j < N
    · obtain ⟨s, g1, o1, u1, g2, o2, u2, a1, a2, R1, R2, M1⟩ := ME.out wr.drew j (grown_drew G.out) hlt
      rw [a1, a2]
      obtain ⟨p0, p1, p2, p3, p4⟩ := range_cells (w := wr) R1
      obtain ⟨q0, q1, q2, q3, q4⟩ := range_cells (w := wr) R2
      have d1 : (s.cl != s.cl) = false := by simp
      have d2 : (s.sq != s.sq) = false := by simp
      clear R1 R2 a1 a2
      go_upto_region 6 with fail
      refine region_tail 35 (by kernel_rfl) (by kernel_rfl) ?_
      simp only [List.take_succ_cons, List.take_zero, List.drop_succ_cons, List.drop_zero]
      iterate 35 still_step
      refine wpStill_nil ?_
      go_wp2_with (go_at_call 14; (with_reducible refine M1.mono ?_); rintro e w5 ⟨rfl, g5⟩)
      go_roundw
      case rel => exact ⟨j + 1, by omega, by go_num, grown_tr (grown_drew G.out) g5⟩
      case measure => simp [intOf]; omega
    · go_wp2_with fail
      go_ret
      exact ⟨rfl, G.out⟩
end Go.Proofs.Ytdekeibnehoeaaa
