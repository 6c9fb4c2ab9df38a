/- Rows of jobs: copied, held against each other. -/
import Derived.Test.YtlolhdijadhklaaOHeard
namespace Go.Proofs.Ytlolhdijadhklaa
open Go.RowKit Atl
set_option linter.unusedVariables false
set_option linter.unusedSimpArgs false
set_option maxRecDepth 10000

structure Jb where
  nm : ByteArray
  ex : ByteArray
  zn : ByteArray
  tk : ByteArray
  cl : Int
  sq : Int
  pa : Bool
  ma : Int
abbrev jbc (o : Jb) : List Value := [.string o.nm, .string o.ex, .string o.zn, .string o.tk, .int .i64 o.cl, .int .i64 o.sq, .bool o.pa, .int .i64 o.ma]
abbrev jbv (o : Jb) : Value := .agg #[.string o.nm, .string o.ex, .string o.zn, .string o.tk, .int .i64 o.cl, .int .i64 o.sq, .bool o.pa, .int .i64 o.ma]
def eJ : Elm Jb where
  el := 113
  sl := 42
  size := 8
  bytes := 96
  zero := .agg #[.string ⟨#[]⟩, .string ⟨#[]⟩, .string ⟨#[]⟩, .string ⟨#[]⟩, .int .i64 0, .int .i64 0, .bool false, .int .i64 0]
  enc := fun x => jbc x
  hu := Try.underlying42
  hi := by kernel_rfl
  hz := rfl
  hs := by decide
  len := fun _ => rfl
  one := by intro x v hv; simp at hv; rcases hv with rfl | rfl | rfl | rfl | rfl | rfl | rfl | rfl <;> rfl
  he := by kernel_rfl
  so := fun W => Try.sizeOf113 W
/-- A slice reads as jobs. -/
def Rdj (w : World) (u : S3) (l : List Jb) : Prop := eJ.Rx w (.slice u.a u.n u.c) l ∧ u.n = l.length ∧ l.length * 96 ≤ 140737488355328
theorem Rdj.grown {w w' : World} {u : S3} {l : List Jb} (h : Rdj w u l) (g : w.grownBy w' none) : Rdj w' u l := ⟨h.1.grown g, h.2⟩
theorem Rdj.kept {F : Nat → Prop} {w w' : World} {u : S3} {l : List Jb} (h : Rdj w u l) (g : Chg F w w') (hF : l ≠ [] → ∀ k, (Value.slice u.a u.n u.c).ownBlock = some k → ¬ F k) : Rdj w' u l := ⟨h.1.kept' g hF, h.2⟩
theorem rdj_nil (w : World) : Rdj w nil3 [] := ⟨.inl ⟨rfl, rfl⟩, rfl, by simp⟩
set_option maxRecDepth 100000 in
theorem nilJ_not (a : Addr) (n c : Nat) (w : World) : (binOp .eql 42 (.slice (some a) n c) (.slice none 0 0)).run Try.prog w = .ok (.bool false) w := by kernel_rfl
set_option maxRecDepth 100000 in
set_option maxHeartbeats 800000 in
theorem copj_any (u : S3) (l : List Jb) (w : World) (h : Rdj w u l) : CopJ (fun W j => Rdj W j l) w u := by
  obtain ⟨h, hn, hb⟩ := h
  have N1 := nilJ_is
  have N2 := nilJ_not
  obtain ⟨ua, un, uc⟩ := u
  simp only at h hn ⊢
  rcases id h with ⟨e, rfl⟩ | ⟨a, c, e, hs, hc⟩
  · injection e with e1 e2 e3
    subst e1 e2 e3
    clear h hn hb
    go_enter Try.func88, Try.ntmps88
    go_wp2
    go_ret
    exact ⟨nil3, rfl, grown_refl _ _, fun k hk => by simp [nil3, Value.ownBlock] at hk, fun W _ => rdj_nil W⟩
  · injection e with e1 e2 e3
    subst e1 e3
    have hX1 : ∀ o, eJ.Rx (w.alloc o) (.slice (some a) un uc) l := fun o => h.grown (World.grownBy_alloc w o none)
    have hM : eJ.Own (w.alloc (.cells #[] 113)) w.heap.size (.slice (some ⟨w.heap.size, 0, none⟩) 0 0) [] := Elm.made (E := eJ) w #[] 0 _ rfl (by unfold maxLen; omega) rfl
    have HN : Hid (un = l.length) := hn
    have HB : Hid (l.length * 96 ≤ 140737488355328) := hb
    clear h hc hs e2 hn hb
    go_enter Try.func88, Try.ntmps88
    go_wp2_with (refine Elm.wpList_append (E := eJ) rfl (.tmp 5) (.tmp 6) rfl w.heap.size _ [] rfl hM _ l rfl (hX1 _) (by have := HB.out; simp; omega) (by have := HB.out; show (0 + l.length) * 96 ≤ _; omega) (by simp) ?_; intro ad n c w2 hO2 hg2 hl2)
    go_ret
    obtain rfl : n = l.length := by have := hO2.len; simpa using this
    have gg : w.grownBy w2 none := grown_more (World.grownBy_alloc w _ none) hg2 (fun k hk => .inr (by injection hk with hk; exact Nat.le_of_eq hk))
    exact ⟨⟨ad, l.length, c⟩, rfl, gg, fun k hk => (hO2.lt k hk).1, fun W hW => ⟨hO2.rx.kept' hW (fun _ k hk c => by have := hO2.lt k hk; omega), rfl, HB.out⟩⟩
def jeq (a b : Jb) : Bool := decide (a.nm.toList = b.nm.toList) && decide (a.ex.toList = b.ex.toList) && decide (a.zn.toList = b.zn.toList) && decide (a.tk.toList = b.tk.toList) && decide (a.cl = b.cl) && decide (a.sq = b.sq) && decide (a.pa = b.pa) && decide (a.ma = b.ma)
set_option maxRecDepth 100000 in
theorem neq_job (a : Jb) (w : World) : (binOp .neq 113 (jbv a) (jbv a)).run Try.prog w = .ok (.bool false) w := by
  go_simp
theorem cells_j {w : World} {q o : Nat} {s : Jb} (h : w.rangeAt q o (jbc s)) : w.cell? ⟨q, o, none⟩ = some (.string s.nm) ∧ w.cell? ⟨q, o + 1, none⟩ = some (.string s.ex) ∧ w.cell? ⟨q, o + 2, none⟩ = some (.string s.zn) ∧ w.cell? ⟨q, o + 3, none⟩ = some (.string s.tk) ∧ w.cell? ⟨q, o + 4, none⟩ = some (.int .i64 s.cl) ∧ w.cell? ⟨q, o + 5, none⟩ = some (.int .i64 s.sq) ∧ w.cell? ⟨q, o + 6, none⟩ = some (.bool s.pa) ∧ w.cell? ⟨q, o + 7, none⟩ = some (.int .i64 s.ma) :=
  ⟨h 0 _ rfl, h 1 _ rfl, h 2 _ rfl, h 3 _ rfl, h 4 _ rfl, h 5 _ rfl, h 6 _ rfl, h 7 _ rfl⟩
theorem range_j {w : World} {ad : Option Addr} {N c : Nat} {X : List Jb} {i : Nat} {x : Jb} (h : eJ.Rx w (.slice ad N c) X) (hi : X[i]? = some x) : ∃ g o, ad = some ⟨g, o, none⟩ ∧ w.rangeAt g (o + i * 8) (jbc x) := by
  obtain ⟨g, o, c, h1, h2⟩ := h.at_ hi
  injection h1 with h1 _ _
  exact ⟨g, o, h1, h2⟩
set_option maxRecDepth 100000 in
set_option maxHeartbeats 3200000 in
theorem jobs_same (l : List Jb) (u v : S3) (w : World) (h : Rdj w u l) (k : Rdj w v l) : Calls Try.prog 60 #[.slice u.a u.n u.c, .slice v.a v.n v.c] w fun e w' => e = .returned (.bool true) ∧ w.grownBy w' none := by
  obtain ⟨hR, hn, hb⟩ := h
  obtain ⟨kR, kn, kb⟩ := k
  obtain ⟨ua, un, uc⟩ := u
  obtain ⟨va, vn, vc⟩ := v
  simp only at hn kn hR kR ⊢
  obtain ⟨N, hN⟩ : ∃ N, l.length = N := ⟨_, rfl⟩
  have NL : Hid (l.length = N) := hN
  rw [hN] at hn kn hb
  subst hn
  have kn' := kn
  subst kn'
  have RU : Hid (∀ W, w.grownBy W none → eJ.Rx W (.slice ua vn uc) l) := fun W g => hR.grown g
  have RV : Hid (∀ W, w.grownBy W none → eJ.Rx W (.slice va vn vc) l) := fun W g => kR.grown g
  have un16 : (vn : Int) ≤ 9223372036854775807 := by omega
  have NJ : Hid (∀ (s : Jb) W, (binOp .neq 113 (jbv s) (jbv s)).run Try.prog W = .ok (.bool false) W) := fun s W => neq_job s W
  clear hR kR hb kb hN
  have G1 : Hid (w.grownBy w none) := grown_refl _ _
  go_enter Try.func60, Try.ntmps60
  go_upto_region 4 with fail
  go_loopw [5] (fun i wr => ∃ j : Nat, j ≤ vn ∧ i = .int .i64 (j : Int) ∧ Hid (w.grownBy wr none)) (fun i _ => vn - (intOf i).toNat)
  case atStart => exact ⟨0, by omega, rfl, G1⟩
  case round =>
    clear G1
    obtain ⟨j, hj, rfl, G⟩ := hrel
    by_cases hlt : j < vn
    · obtain ⟨s, hy⟩ : ∃ y, l[j]? = some y := ⟨_, List.getElem?_eq_getElem (by rw [NL.out]; exact hlt)⟩
      obtain ⟨g1, o1, e1, r1⟩ := range_j (RU.out wr G.out) hy
      obtain ⟨g2, o2, e2, r2⟩ := range_j (RV.out wr G.out) hy
      obtain ⟨p0, p1, p2, p3, p4, p5, p6, p7⟩ := cells_j r1
      obtain ⟨q0, q1, q2, q3, q4, q5, q6, q7⟩ := cells_j r2
      have NQ := NJ.out s
      subst e1 e2
      clear hy r1 r2
      go_wp2_with fail
      go_quiet (fail)
      go_wp2_with fail
      go_roundw
      case rel => exact ⟨j + 1, by omega, by go_num, grown_drewN G.out _⟩
      case measure => simp [intOf]; omega
    · go_wp2_with fail
      go_ret
      exact ⟨rfl, G.out⟩
set_option maxRecDepth 100000 in
set_option maxHeartbeats 3200000 in
theorem res_same (er tm : Int) (l : List Jb) (u v : S3) (w : World) (h : Rdj w u l) (k : Rdj w v l) : Calls Try.prog 35 #[ev er tm u, ev er tm v] w fun e w' => e = .returned (.bool true) ∧ w.grownBy w' none := by
  have JS : Hid (∀ W, w.grownBy W none → _) := fun W g => jobs_same l u v W (h.grown g) (k.grown g)
  obtain ⟨W0, hW0⟩ : ∃ W0, W0 = (w.alloc (.cells (ea er tm u) 47)).alloc (.cells (ea er tm v) 47) := ⟨_, rfl⟩
  obtain ⟨g0, s0, k0, k1⟩ := two_new w _ _ _ _ W0 hW0
  have G0 : Hid (w.grownBy W0 none) := g0
  have a0 : W0.cell? ⟨w.heap.size, 0, none⟩ = some (.int .i64 er) := (k0 W0 (grown_refl _ _)).1 0 _ rfl
  have a1 : W0.cell? ⟨w.heap.size, 1, none⟩ = some (.int .i64 tm) := (k0 W0 (grown_refl _ _)).1 1 _ rfl
  have a2 : W0.cell? ⟨w.heap.size, 2, none⟩ = some (.slice u.a u.n u.c) := (k0 W0 (grown_refl _ _)).1 2 _ rfl
  have b0 : W0.cell? ⟨w.heap.size + 1, 0, none⟩ = some (.int .i64 er) := (k1 W0 (grown_refl _ _)).1 0 _ rfl
  have b1 : W0.cell? ⟨w.heap.size + 1, 1, none⟩ = some (.int .i64 tm) := (k1 W0 (grown_refl _ _)).1 1 _ rfl
  have b2 : W0.cell? ⟨w.heap.size + 1, 2, none⟩ = some (.slice v.a v.n v.c) := (k1 W0 (grown_refl _ _)).1 2 _ rfl
  have HW0 : Hid (W0 = _) := hW0
  have d1 : (er == er) = true := by simp
  have d2 : (tm == tm) = true := by simp
  clear g0 s0 k0 k1 hW0 h k
  go_enter Try.func35, Try.ntmps35
  go_upto_region 1 with fail
  rw [← HW0.out]
  go_wp2_with (go_at_call 60; (with_reducible refine (JS.out _ G0.out).mono ?_); rintro e w2 ⟨rfl, g2⟩)
  go_ret
  exact ⟨rfl, grown_tr G0.out g2⟩
end Go.Proofs.Ytlolhdijadhklaa
