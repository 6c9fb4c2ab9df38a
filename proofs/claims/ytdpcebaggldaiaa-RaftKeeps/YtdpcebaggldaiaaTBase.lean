/- Entries and logs in memory; end, has, behind, termAt, follow. -/
import Derived.Test.YtdpcebaggldaiaaMb
import Derived.Test.YtdpcebaggldaiaaMa
namespace Go.Proofs.Ytdpcebaggldaiaa
open Go.RowKit Trl
set_option linter.unusedVariables false
set_option maxRecDepth 10000

def eE : Elm En where
  el := 34
  sl := 23
  size := 2
  bytes := 24
  zero := .agg #[.int .i64 0, .string ⟨#[]⟩]
  enc := fun p => [.int .i64 p.1, .string p.2]
  hu := Try.underlying23
  hi := by kernel_rfl
  hz := rfl
  hs := by decide
  len := fun _ => rfl
  one := by intro x v hv; simp at hv; rcases hv with rfl | rfl <;> rfl
  he := by kernel_rfl
  so := fun W => Try.sizeOf34 W
/-- A log as a value. -/
abbrev tv (b k : Int) (v : Value) : Value := .agg #[.int .i64 b, .int .i64 k, v]
/-- Entries that are read, with what lies behind them. -/
def Sl (w : World) (v : Value) (l : List En) : Prop := ∃ ad c, v = .slice ad l.length c ∧ l.length ≤ c ∧ c ≤ 9223372036854775807 ∧ eE.Rx w v l
theorem Sl.rx {w : World} {v : Value} {l : List En} (h : Sl w v l) : eE.Rx w v l := by obtain ⟨_, _, _, _, _, h⟩ := h; exact h
theorem Sl.grown {w w' : World} {v : Value} {l : List En} (h : Sl w v l) (g : w.grownBy w' none) : Sl w' v l := by
  obtain ⟨ad, c, h1, h2, h3, h4⟩ := h
  exact ⟨ad, c, h1, h2, h3, h4.grown g⟩
theorem Sl.nil (w : World) : Sl w (.slice none 0 0) [] := ⟨none, 0, rfl, by simp, by simp, .inl ⟨rfl, rfl⟩⟩
theorem Sl.own {w : World} {base : Nat} {v : Value} {l : List En} (h : eE.Own w base v l) : Sl w v l := by
  have hr := h.rx
  rcases h.2 with ⟨e, h0⟩ | ⟨g, cap, cur, e, hg, hh, h1, h2, h3, h4⟩
  · exact ⟨none, 0, by rw [h0]; exact e, by omega, by omega, hr⟩
  · exact ⟨_, cap, e, h1, by unfold maxLen at h2; omega, hr⟩
theorem at_e {w : World} {ad : Option Addr} {n c : Nat} {l : List En} (h : Sl w (.slice ad n c) l) {i : Nat} {x : En} (hi : l[i]? = some x) :
    ∃ g o, ad = some ⟨g, o, none⟩ ∧ w.cell? ⟨g, o + i * 2, none⟩ = some (.int .i64 x.1) ∧ w.cell? ⟨g, o + i * 2 + 1, none⟩ = some (.string x.2) := by
  obtain ⟨g, o, c', hv, hc⟩ := h.rx.at_ hi
  injection hv with e1 e2 e3
  have h0 := hc 0 _ rfl
  have h1 := hc 1 _ rfl
  have e : eE.size = 2 := rfl
  rw [e] at h0 h1
  rw [Nat.add_zero] at h0
  exact ⟨g, o, e1, h0, h1⟩
/-- 'v[k:]'. -/
theorem Sl.from {w : World} {ad : Option Addr} {n c : Nat} {l : List En} (h : Sl w (.slice ad n c) l) {k : Nat} (hk : k ≤ l.length) :
    ∃ a' m c', (∀ W, (Instr.slice 23 (.slice ad n c) (some (.int .i64 (k : Int))) none none).run Try.prog W = .ok (.slice a' m c') W) ∧ Hid (m = n - k) ∧ Sl w (.slice a' m c') (l.drop k) := by
  obtain ⟨a, c0, hv, hlc, hc, hr⟩ := h
  injection hv with e1 e2 e3
  subst e1 e2 e3
  have ht : Try.prog.underlying eE.sl = some (.slice (Try.prog.elem eE.sl)) := by rw [eE.he]; exact eE.hu
  have run : ∀ W, (Instr.slice 23 (.slice ad l.length c) (some (.int .i64 (k : Int))) none none).run Try.prog W = .ok (sliced ad k l.length c 2) W := fun W => by
    have h1 := run_slice_l (P := Try.prog) W eE.sl ad l.length c ht .i64 (k : Int) (by omega) (by omega)
    rw [eE.he, eE.so W] at h1
    have h2 : (Instr.slice 23 (.slice ad l.length c) (some (.int .i64 (k : Int))) none none).run Try.prog W = .ok (sliced ad (k : Int).toNat l.length c eE.size) W := h1
    rw [h2, Int.toNat_natCast]
    rfl
  unfold sliced at run
  refine ⟨_, _, _, run, rfl, _, _, by rw [List.length_drop], by rw [List.length_drop]; omega, by omega, ?_⟩
  rcases hr with ⟨e, h0⟩ | ⟨a, c', e, hs, hcell⟩
  · injection e with e1 e2 e3
    subst e1 h0 e3
    simp at hk
    subst hk
    exact .inl ⟨by simp, rfl⟩
  · injection e with e1 e2 e3
    subst e1 e3
    by_cases hck : c = k
    · have hl : l.drop k = [] := List.drop_of_length_le (by omega)
      rw [if_pos hck, hl]
      refine .inr ⟨a, c - k, ?_, .inl rfl, fun t x hx => by simp [Elm.cells] at hx⟩
      have : l.length - k = 0 := by omega
      rw [this]
      rfl
    · rw [if_neg hck]
      refine .inr ⟨a.add (k * 2), c - k, by rw [List.length_drop]; rfl, ?_, fun t x hx => ?_⟩
      · rcases hs with rfl | hs
        · exact .inl (by simp)
        · refine .inr ?_
          obtain ⟨q, o, sp⟩ := a
          simp at hs
          subst hs
          rw [Addr.add_lit]
      · rw [Elm.cells_drop, List.getElem?_drop] at hx
        have h1 := hcell _ x hx
        rw [← h1]
        congr 1
        obtain ⟨q, o, sp⟩ := a
        rcases hs with rfl | hs
        · simp [Elm.cells] at hx
        · simp at hs
          subst hs
          show Addr.add _ _ = _
          rw [Addr.add_lit, Addr.add_lit, Addr.add_lit, Nat.add_assoc]
          rfl
/-- 'v[:k]'. -/
theorem Sl.upto {w : World} {ad : Option Addr} {n c : Nat} {l : List En} (h : Sl w (.slice ad n c) l) {k : Nat} (hk : k ≤ l.length) :
    ∃ a' c', (∀ W, (Instr.slice 23 (.slice ad n c) none (some (.int .i64 (k : Int))) none).run Try.prog W = .ok (.slice a' k c') W) ∧ Sl w (.slice a' k c') (l.take k) := by
  obtain ⟨a, c0, hv, hlc, hc, hr⟩ := h
  injection hv with e1 e2 e3
  subst e1 e2 e3
  have ht : Try.prog.underlying eE.sl = some (.slice (Try.prog.elem eE.sl)) := by rw [eE.he]; exact eE.hu
  have run : ∀ W, (Instr.slice 23 (.slice ad l.length c) none (some (.int .i64 (k : Int))) none).run Try.prog W = .ok (.slice ad k c) W := fun W => by
    have h1 := run_slice_h (P := Try.prog) W eE.sl ad l.length c ht .i64 (k : Int) (by omega) (by omega)
    rw [eE.he, eE.so W] at h1
    have h2 : (Instr.slice 23 (.slice ad l.length c) none (some (.int .i64 (k : Int))) none).run Try.prog W = .ok (sliced ad 0 (k : Int).toNat c eE.size) W := h1
    rw [h2, Int.toNat_natCast]
    unfold sliced
    cases ad with
    | none => simp
    | some a =>
      by_cases hc0 : c = 0
      · rw [if_pos hc0]; rfl
      · rw [if_neg hc0, Nat.zero_mul]
        show Result.ok (Value.slice (some (a.add 0)) _ _) W = _
        rw [Nat.sub_zero, Nat.sub_zero]
        congr 3
  have hlen : (l.take k).length = k := by rw [List.length_take]; omega
  refine ⟨ad, c, run, ad, c, by rw [hlen], by omega, hc, ?_⟩
  rcases hr with ⟨e, h0⟩ | ⟨a, c', e, hs, hcell⟩
  · injection e with e1 e2 e3
    subst e1 h0 e3
    simp at hk
    subst hk
    exact .inl ⟨rfl, rfl⟩
  · injection e with e1 e2 e3
    subst e1 e3
    refine .inr ⟨a, c, by rw [hlen], ?_, fun t x hx => ?_⟩
    · rcases hs with rfl | hs
      · exact .inl (by simp)
      · exact .inr hs
    · rw [Elm.cells_take] at hx
      refine hcell t x ?_
      rw [List.getElem?_take] at hx
      split at hx
      · exact hx
      · cases hx
set_option maxRecDepth 100000 in
theorem end_any (b k : Int) (ad : Option Addr) (n c : Nat) (w : World) (hb : 0 ≤ b) (hb2 : b ≤ 1099511627776) (hn : n ≤ 4096) :
    Calls Try.prog 62 #[tv b k (.slice ad n c)] w fun e w' => e = .returned (.int .i64 (b + (n : Int))) ∧ w.grownBy w' none := by
  go_enter Try.func62, Try.ntmps62
  go_wp2_with fail
  go_ret
  exact ⟨rfl, World.grownBy_alloc w _ none⟩
theorem has_any (b k x : Int) (ad : Option Addr) (n c : Nat) (w : World) (hb : 0 ≤ b) (hb2 : b ≤ 1099511627776) (hn : n ≤ 4096) :
    Calls Try.prog 68 #[tv b k (.slice ad n c), .int .i64 x] w fun e w' => e = .returned (.bool (decide (b ≤ x ∧ x ≤ b + (n : Int)))) ∧ w.grownBy w' none := by
  have EA := fun W => end_any b k ad n c W hb hb2 hn
  by_cases h1 : b ≤ x
  · rw [show decide (b ≤ x ∧ x ≤ b + (n : Int)) = decide (x ≤ b + (n : Int)) from decide_eq_decide.2 ⟨fun h => h.2, fun h => ⟨h1, h⟩⟩]
    go_enter Try.func68, Try.ntmps68
    go_wp2_with (go_at_call 62; (with_reducible refine (EA _).mono ?_); rintro e w1 ⟨rfl, g1⟩)
    go_ret
    exact ⟨rfl, grown_tr (World.grownBy_alloc w _ none) g1⟩
  · rw [decide_eq_false (fun h => h1 h.1)]
    go_enter Try.func68, Try.ntmps68
    go_wp2_with fail
    go_ret
    exact ⟨rfl, World.grownBy_alloc w _ none⟩
set_option maxRecDepth 100000 in
theorem behind_any (b k x : Int) (v : Value) (l : List En) (w : World) (h : Sl w v l) (hb : 0 ≤ b) (hb2 : b ≤ 1099511627776) (hx : b ≤ x) (hx2 : x ≤ b + (l.length : Int)) (hn : l.length ≤ 4096) :
    Calls Try.prog 77 #[tv b k v, .int .i64 x] w fun e w' => ∃ a' m c', e = .returned (.slice a' m c') ∧ Sl w' (.slice a' m c') (l.drop (x - b).toNat) ∧ w.grownBy w' none := by
  obtain ⟨ad, c, hv, hlc, hc, hr⟩ := id h
  subst hv
  obtain ⟨a', m, c', hs, hm, hS⟩ := h.from (k := (x - b).toNat) (by omega)
  rw [Int.toNat_of_nonneg (by omega)] at hs
  clear h hr
  generalize l.length = N at *
  go_enter Try.func77, Try.ntmps77
  go_wp2_with fail
  go_ret
  exact ⟨_, _, _, rfl, hS.grown (World.grownBy_alloc w _ none), World.grownBy_alloc w _ none⟩
set_option maxRecDepth 100000 in
theorem termAt_any (b k x : Int) (v : Value) (l : List En) (w : World) (h : Sl w v l) (hb : 0 ≤ b) (hb2 : b ≤ 1099511627776) (hx : b ≤ x) (hx2 : x ≤ b + (l.length : Int)) (hn : l.length ≤ 4096) :
    Calls Try.prog 63 #[tv b k v, .int .i64 x] w fun e w' => e = .returned (.int .i64 (tm b k l x)) ∧ w.grownBy w' none := by
  obtain ⟨ad, c, hv, hlc, hc, hr⟩ := id h
  subst hv
  by_cases h0 : x = b
  · have e0 : tm b k l x = k := by unfold tm; rw [h0, Int.sub_self]; rfl
    rw [e0]
    clear h hr e0
    subst h0
    generalize l.length = N at *
    go_enter Try.func63, Try.ntmps63
    go_wp2_with fail
    go_ret
    exact ⟨rfl, World.grownBy_alloc w _ none⟩
  · obtain ⟨j, hj⟩ : ∃ j : Nat, (x - b).toNat = j + 1 := ⟨(x - b).toNat - 1, by omega⟩
    obtain ⟨y, hy⟩ : ∃ y, l[j]? = some y := ⟨_, List.getElem?_eq_getElem (by omega)⟩
    obtain ⟨g, o, rfl, y0, _⟩ := at_e h hy
    have e0 : tm b k l x = y.1 := by unfold tm; rw [hj, lastT_at hy]
    rw [e0]
    have e2 : (x == b) = false := by simpa using h0
    have y1 : ∀ o1, (w.alloc o1).cell? ⟨g, o + j * 2, none⟩ = some (.int .i64 y.1) := fun o1 => (World.grownBy_alloc w o1 none).cell y0 (by simp)
    clear h hr hy e0
    generalize l.length = N at *
    go_enter Try.func63, Try.ntmps63
    go_wp2_with fail
    go_ret
    exact ⟨rfl, World.grownBy_alloc w _ none⟩
set_option maxRecDepth 100000 in
set_option maxHeartbeats 800000 in
theorem follow_any (v : Value) (l : List En) (k : Int) (w : World) (h : Sl w v l) :
    Calls Try.prog 64 #[v, .int .i64 k] w fun e w' => e = .returned (.bool (foll k l)) ∧ w.grownBy w' none := by
  obtain ⟨ad, c, hv, hlc, hc, hr⟩ := id h
  subst hv
  obtain ⟨N, hN⟩ : ∃ N, l.length = N := ⟨_, rfl⟩
  have NL : Hid (l.length = N) := hN
  rw [hN] at h hlc ⊢
  have H : Hid (Sl w (.slice ad N c) l) := h
  clear h hr hN
  generalize hB : foll k l = B
  have HB : Hid (foll k l = B) := hB
  clear hB
  go_enter Try.func64, Try.ntmps64
  go_wp2_with fail
  go_loopw [1, 6, 9] (fun p _ i wr => ∃ (j : Nat) (q : Int), j ≤ N ∧ i = .int .i64 (j : Int) ∧ p = .int .i64 q ∧ Hid (lastT k (l.take j) = q) ∧ Hid (foll k (l.take j) = true) ∧ Hid (w.grownBy wr none)) (fun _ _ i _ => N - (intOf i).toNat)
  case atStart => exact ⟨0, k, by omega, rfl, rfl, (rfl : lastT k (l.take 0) = k), (rfl : foll k (l.take 0) = true), grown_refl _ _⟩
  case round =>
    obtain ⟨j, q, hj, rfl, rfl, LP, I, G⟩ := hrel
    by_cases hlt : j < N
    · obtain ⟨y, hy⟩ : ∃ y, l[j]? = some y := ⟨_, List.getElem?_eq_getElem (by rw [NL.out]; exact hlt)⟩
      obtain ⟨g, o, rfl, y0, y1⟩ := at_e (H.out.grown G.out) hy
      have F2 := foll_take (k := k) hy
      rw [I.out, LP.out, Bool.true_and] at F2
      have L2 : Hid (lastT k (l.take (j + 1)) = y.1) := lastT_at hy
      have FC : Hid (foll k (l.take (j + 1)) = false → foll k l = false) := foll_cut (j + 1)
      clear hy I LP
      obtain ⟨x, s⟩ := y
      by_cases h1 : x < 1
      · have FN : Hid (foll k l = false) := FC.out (by rw [F2]; unfold one; rw [decide_eq_false (by omega)]; rfl)
        clear F2 FC L2
        go_wp2_with fail
        go_ret
        exact ⟨by rw [← HB.out, FN.out]; rfl, grown_alloc G.out _⟩
      by_cases h2 : x < q
      · have FN : Hid (foll k l = false) := FC.out (by rw [F2]; unfold one; rw [decide_eq_false (p := q ≤ _) (by simp; omega)]; simp)
        clear F2 FC L2
        go_wp2_with fail
        go_ret
        exact ⟨by rw [← HB.out, FN.out]; rfl, grown_alloc G.out _⟩
      by_cases h3 : 1099511627776 < x
      · have FN : Hid (foll k l = false) := FC.out (by rw [F2]; unfold one; rw [decide_eq_false (p := _ ≤ (1099511627776 : Int)) (by simp; omega)]; simp)
        clear F2 FC L2
        go_wp2_with fail
        go_ret
        exact ⟨by rw [← HB.out, FN.out]; rfl, grown_alloc G.out _⟩
      by_cases h4 : 4096 < s.size
      · have FN : Hid (foll k l = false) := FC.out (by rw [F2]; unfold one; rw [decide_eq_false (p := _ ≤ 4096) (by simp; omega)]; simp)
        have d4 : decide ((4096 : Int) < (s.size : Int)) = true := decide_eq_true (by omega)
        clear F2 FC L2
        go_wp2_with fail
        go_ret
        exact ⟨by rw [← HB.out, FN.out]; rfl, grown_alloc G.out _⟩
      · have I2 : Hid (foll k (l.take (j + 1)) = true) := by
          show _ = _
          rw [F2]
          unfold one
          simp
          omega
        have d4 : decide ((4096 : Int) < (s.size : Int)) = false := decide_eq_false (by omega)
        clear F2 FC
        go_wp2_with fail
        go_roundw
        case rel => exact ⟨j + 1, x, by omega, by go_num, rfl, L2, I2, grown_alloc G.out _⟩
        case measure => simp [intOf]; omega
    · have e : foll k l = true := by
        have := I.out
        rwa [List.take_of_length_le (by rw [NL.out]; omega)] at this
      have E : Hid (foll k l = true) := e
      clear e
      go_wp2_with fail
      go_ret
      exact ⟨by rw [← HB.out, E.out]; rfl, G.out⟩
end Go.Proofs.Ytdpcebaggldaiaa
