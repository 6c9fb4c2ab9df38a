/- trail's Append, Cut; Last of any log. -/
import Derived.Test.YtdpcebaggldaiaaTMore
namespace Go.Proofs.Ytdpcebaggldaiaa
open Go.RowKit Trl
set_option linter.unusedVariables false
set_option maxRecDepth 10000

theorem keep_store {X W : World} {a b c : Value} (g : X.grownBy W none) {q : Nat} (hq : X.heap.size ≤ q) : X.grownBy (((W.setCell ⟨q, 0, none⟩ a).setCell ⟨q, 1, none⟩ b).setCell ⟨q, 2, none⟩ c) none :=
  grown_more (grown_more (grown_more g (grown_set W ⟨q, 0, none⟩ a) (fun k e => .inr (by injection e with e; simp at e; omega))) (grown_set _ ⟨q, 1, none⟩ b) (fun k e => .inr (by injection e with e; simp at e; omega))) (grown_set _ ⟨q, 2, none⟩ c) (fun k e => .inr (by injection e with e; simp at e; omega))
/-- A log in a box. -/
def Bo (w : World) (q : Nat) (b k : Int) (v : Value) : Prop := w.cell? ⟨q, 0, none⟩ = some (.int .i64 b) ∧ w.cell? ⟨q, 1, none⟩ = some (.int .i64 k) ∧ w.cell? ⟨q, 2, none⟩ = some v
theorem Bo.grown {w w' : World} {q : Nat} {b k : Int} {v : Value} (h : Bo w q b k v) (g : w.grownBy w' none) : Bo w' q b k v := ⟨g.cell h.1 (by simp), g.cell h.2.1 (by simp), g.cell h.2.2 (by simp)⟩
theorem Rz.grown {w w' : World} {base : Nat} {b k : Int} {o : Option (List En)} {B K : Int} {v : Value} {f : Bool} (h : Rz w base b k o B K v f) (g : w.grownBy w' none) : Rz w' base b k o B K v f := h.but g (fun q _ e => by cases e)
/-- Three boxes: the log, an entry, the answer. -/
theorem tri_kept {w W : World} {b k : Int} {v : Value} {e : En} {t t' : TypeId} (g : (((w.alloc (.cells #[.int .i64 b, .int .i64 k, v] t)).alloc (.cells #[.int .i64 e.1, .string e.2] t')).alloc (.cells #[.int .i64 0, .int .i64 0, .slice none 0 0] t)).grownBy W none) :
    Bo W w.heap.size b k v ∧ (W.cell? ⟨w.heap.size + 1, 0, none⟩ = some (.int .i64 e.1) ∧ W.cell? ⟨w.heap.size + 1, 1, none⟩ = some (.string e.2)) ∧ Bo W (w.heap.size + 2) 0 0 (.slice none 0 0) ∧ (∀ i, W.frozen? ⟨w.heap.size + 2, i, none⟩ = false) ∧ w.heap.size + 2 < W.heap.size ∧ w.grownBy W none := by
  have g1 := World.grownBy_alloc w (.cells #[.int .i64 b, .int .i64 k, v] t) none
  have g2 := World.grownBy_alloc (w.alloc (.cells #[.int .i64 b, .int .i64 k, v] t)) (.cells #[.int .i64 e.1, .string e.2] t') none
  have g3 := World.grownBy_alloc ((w.alloc (.cells #[.int .i64 b, .int .i64 k, v] t)).alloc (.cells #[.int .i64 e.1, .string e.2] t')) (.cells #[.int .i64 0, .int .i64 0, .slice none 0 0] t) none
  have e1 : (w.alloc (.cells #[.int .i64 b, .int .i64 k, v] t)).heap.size = w.heap.size + 1 := by simp
  have e2 : ((w.alloc (.cells #[.int .i64 b, .int .i64 k, v] t)).alloc (.cells #[.int .i64 e.1, .string e.2] t')).heap.size = w.heap.size + 2 := by simp
  have h1 : Bo W w.heap.size b k v := box_kept (grown_tr g2 (grown_tr g3 g))
  have h2a := cell_kept (grown_tr g3 g) 0 (.int .i64 e.1) rfl
  have h2b := cell_kept (grown_tr g3 g) 1 (.string e.2) rfl
  have h3 := box_kept g
  have h4 := fun i => frozen_kept g i
  rw [e1] at h2a h2b
  rw [e2] at h3 h4
  have hz := g.size
  exact ⟨h1, ⟨h2a, h2b⟩, h3, h4, by simp at hz; omega, grown_tr g1 (grown_tr g2 (grown_tr g3 g))⟩
theorem one_e (w : World) (x : En) : eE.Rx (w.alloc (.cells #[.int .i64 x.1, .string x.2] 34)) (.slice (some ⟨w.heap.size, 0, none⟩) 1 1) [x] := by
  refine Elm.rx_one fun j u hu => ?_
  refine new_at w rfl ?_
  rw [← hu]
  simp [eE]
set_option maxRecDepth 100000 in
set_option maxHeartbeats 1600000 in
theorem Append_any (b k : Int) (v : Value) (l : List En) (e : En) (w : World) (h : Sl w v l) (hl : l.length ≤ 4096) :
    Calls Try.prog 74 #[tv b k v, .agg #[.int .i64 e.1, .string e.2]] w fun E w' => Res w w' b k (Rft.more b k l e) E := by
  obtain ⟨ad, c, hv, hlc, hc, hr⟩ := id h
  subst hv
  obtain ⟨et, es⟩ := e
  have GA : Hid (∀ o1 o2 o3, w.grownBy (((w.alloc o1).alloc o2).alloc o3) none) := fun o1 o2 o3 => grown_tr (World.grownBy_alloc w o1 none) (grown_tr (World.grownBy_alloc _ o2 none) (World.grownBy_alloc _ o3 none))
  have TK : Hid (∀ {W : World}, (((w.alloc (.cells #[.int .i64 b, .int .i64 k, .slice ad l.length c] 25)).alloc (.cells #[.int .i64 et, .string es] 34)).alloc (.cells #[.int .i64 0, .int .i64 0, .slice none 0 0] 25)).grownBy W none → _) := fun {W} g => tri_kept (e := (et, es)) g
  have JO : Hid (∀ (W : World) (q : Nat), q = W.heap.size → w.grownBy W none → Calls Try.prog 67 #[tv b k (.slice ad l.length c), .slice ad l.length c, .slice (some ⟨q, 0, none⟩) 1 1] (W.alloc (.cells #[.int .i64 et, .string es] 34)) fun e w' => ∃ a n c, e = .returned (tv b k (.slice a n c)) ∧ eE.Own w' (W.alloc (.cells #[.int .i64 et, .string es] 34)).heap.size (.slice a n c) (l ++ [(et, es)]) ∧ (W.alloc (.cells #[.int .i64 et, .string es] 34)).grownBy w' none) := fun W q hq g => by
    subst hq
    exact joined_any b k _ _ _ l [(et, es)] _ ⟨_, _, _, rfl⟩ (h.grown (grown_alloc g _)) ⟨_, 1, rfl, by simp, by simp, one_e W (et, es)⟩ (by simp; omega)
  have CD : Hid (∀ (W : World) (a : Option Addr) (n c base : Nat), eE.Own W base (.slice a n c) (l ++ [(et, es)]) → base ≤ W.heap.size → _) := fun W a n c base hx hb => checked_any b k a n c base _ W hx hb
  unfold Rft.more
  clear h hr
  generalize (if chk b k (l ++ [(et, es)]) = true then some (l ++ [(et, es)]) else none) = R at *
  generalize l ++ [(et, es)] = L at *
  generalize l.length = N at *
  go_enter Try.func74, Try.ntmps74
  go_wp2_with (first
    | (go_at_call 67; (with_reducible refine (JO.out _ _ ?hq (GA.out _ _ _)).mono ?_); (case hq => simp); rintro e w3 ⟨a3, n3, c3, rfl, hO3, g3⟩; have G3 := grown_tr (grown_alloc (grown_refl _ none) _) g3)
    | (go_at_call 78; (with_reducible refine (CD.out _ _ _ _ _ hO3 g3.size).mono ?_); rintro e w4 ⟨B4, K4, a4, n4, c4, t4, rfl, hR4, g4⟩; have G4 := grown_tr G3 g4; obtain ⟨_, _, ⟨z0, z1, z2⟩, zf, zs, GW⟩ := TK.out G4; have f0 := zf 0; have f1 := zf 1; have f2 := zf 2))
  obtain ⟨j0, j1, j2, sg⟩ := put3 (a := .int .i64 B4) (b := .int .i64 K4) (c := .slice a4 n4 c4) z0 z1 z2
  have hb3 := hR4.out.lt
  have hz := g3.size
  simp at hz
  refine fin2 rfl rfl (range3 j0 j1 j2) rfl ⟨B4, K4, a4, n4, c4, t4, rfl, (hR4.out.low (by simp; omega)).but sg (fun k hk e => ?_), grown_more GW sg (fun k e => .inr (by injection e with e; omega))⟩
  injection e with e
  have := (hb3 k hk).1
  simp at this
  omega
set_option maxRecDepth 100000 in
set_option maxHeartbeats 3200000 in
theorem Cut_any (b k x : Int) (v : Value) (l : List En) (w : World) (h : Sl w v l) (hk : chk b k l = true) (hx : b ≤ x) (hx2 : x ≤ b + (l.length : Int)) :
    Calls Try.prog 71 #[tv b k v, .int .i64 x] w fun e w' => Res w w' x (tm b k l x) (some (l.drop (x - b).toNat)) e := by
  obtain ⟨ad, c, hv, hlc, hc, _⟩ := id h
  subst hv
  obtain ⟨p1, p2, p3, p4, p5, p6, p7⟩ := chk_parts hk
  have CK : Hid (∀ W, w.grownBy W none → _) := fun W g => check_any b k _ l W (h.grown g)
  rw [hk] at CK
  have GA : Hid (∀ o1 o2, w.grownBy ((w.alloc o1).alloc o2) none) := fun o1 o2 => grown_tr (World.grownBy_alloc w o1 none) (World.grownBy_alloc _ o2 none)
  have HA : Hid (∀ W, _) := fun W => has_any b k x ad l.length c W p1 p2 p5
  rw [decide_eq_true ⟨hx, hx2⟩] at HA
  have TA : Hid (∀ W, w.grownBy W none → _) := fun W g => termAt_any b k x _ l W (h.grown g) p1 p2 hx hx2 p5
  have BH : Hid (∀ W, w.grownBy W none → _) := fun W g => behind_any b k x _ l W (h.grown g) p1 p2 hx hx2 p5
  have JO : Hid (∀ (W : World) (u : Value), Sl W u (l.drop (x - b).toNat) → Calls Try.prog 67 #[tv x (tm b k l x) (.slice none 0 0), u, .slice none 0 0] W fun e w' => ∃ a n c, e = .returned (tv x (tm b k l x) (.slice a n c)) ∧ eE.Own w' W.heap.size (.slice a n c) (l.drop (x - b).toNat) ∧ W.grownBy w' none) := fun W u hu => by
    have := joined_any x (tm b k l x) (.slice none 0 0) u _ _ [] W ⟨_, _, _, rfl⟩ hu (Sl.nil W) (by rw [List.length_drop]; simp; omega)
    rwa [List.append_nil] at this
  generalize tm b k l x = T at *
  generalize (l.drop (x - b).toNat) = L at *
  clear h hk p7
  generalize l.length = N at *
  go_enter Try.func71, Try.ntmps71
  go_wp2_with (first
    | (go_at_call 44; (with_reducible refine (CK.out _ (GA.out _ _)).mono ?_); rintro e w1 ⟨rfl, g1⟩; obtain ⟨⟨q0, q1, q2⟩, _⟩ := two_kept g1)
    | (go_at_call 68; (with_reducible refine (HA.out _).mono ?_); rintro e w2 ⟨rfl, g2⟩; have G2 := grown_tr g1 g2; obtain ⟨⟨r0, r1, r2⟩, _⟩ := two_kept G2)
    | (go_at_call 63; (with_reducible refine (TA.out _ (put_box G2)).mono ?_); rintro e w3 ⟨rfl, g3⟩; have G3 := grown_tr G2 g3; obtain ⟨⟨s0, s1, s2⟩, _⟩ := two_kept G3))
  have G4 := grown_alloc G3 (.cells #[.int .i64 x, .int .i64 T, .slice none 0 0] 25)
  obtain ⟨b0, b1, b2⟩ := box_kept (grown_refl (w3.alloc (.cells #[.int .i64 x, .int .i64 T, .slice none 0 0] 25)) none)
  generalize w3.alloc (.cells #[.int .i64 x, .int .i64 T, .slice none 0 0] 25) = w4 at *
  generalize w3.heap.size = Q at *
  clear s0 s1 s2 r0 r1 r2 q0 q1 q2 g1 g2 g3 G2 CK HA TA
  obtain ⟨⟨s0, s1, s2⟩, _⟩ := two_kept G4
  go_region_with (first
    | (go_at_call 77; (with_reducible refine (BH.out _ (grown_drew (put_box G4))).mono ?_); rintro e w5 ⟨a5, m5, c5, rfl, hS5, g5⟩; have G5 := grown_tr (grown_drew G4) g5; have g5' := grown_tr (grown_drew (grown_refl w4 none)) g5; have i0 := g5'.cell b0 (by simp); have i1 := g5'.cell b1 (by simp); have i2 := g5'.cell b2 (by simp))
    | (go_at_call 67; (with_reducible refine (JO.out _ _ hS5).mono ?_); rintro e w6 ⟨a6, n6, c6, rfl, hO6, g6⟩; have G6 := grown_tr G5 g6; obtain ⟨_, ⟨z0, z1, z2⟩, zf, zs⟩ := two_kept G6; have f0 := zf 0; have f1 := zf 1; have f2 := zf 2))
  all_goals
    clear BH JO
    go_wp2_with fail
    obtain ⟨j0, j1, j2, sg⟩ := put3 (a := .int .i64 x) (b := .int .i64 T) (c := .slice a6 n6 c6) z0 z1 z2
    have hb3 := hO6.lt
    have hz := G5.size
    have hz2 := (put_box G5).size
    exact fin2 rfl rfl (range3 j0 j1 j2) rfl ⟨x, T, a6, n6, c6, true, rfl, (⟨rfl, rfl, rfl, (hO6.low hz2).but sg (fun k hk e => by have := (hb3 k hk).1; injection e with e; simp at hz; omega)⟩ : Rz _ w.heap.size x T (some L) x T (.slice a6 n6 c6) true), grown_more (put_box G6) sg (fun k e => .inr (by injection e with e; omega))⟩
/-- The last number and term of any log: of one that isn't right 0. -/
def lastN (b k : Int) (l : List En) : Int := if chk b k l = true then b + (l.length : Int) else 0
def lastK (b k : Int) (l : List En) : Int := if chk b k l = true then lastT k l else 0
set_option maxRecDepth 100000 in
set_option maxHeartbeats 800000 in
theorem last_or (b k : Int) (v : Value) (l : List En) (w : World) (h : Sl w v l) :
    Calls Try.prog 43 #[tv b k v] w fun e w' => e = .returned (.tuple #[.int .i64 (lastN b k l), .int .i64 (lastK b k l)]) ∧ w.grownBy w' none := by
  cases hk : chk b k l with
  | true =>
    unfold lastN lastK
    rw [if_pos hk, if_pos hk]
    exact last_any b k v l w h hk
  | false =>
    unfold lastN lastK
    rw [hk, if_neg (by simp), if_neg (by simp)]
    have GA : ∀ o, w.grownBy (w.alloc o) none := fun o => World.grownBy_alloc w o none
    obtain ⟨ad, c, hv, hlc, hc, hr⟩ := id h
    subst hv
    have CK : Hid (∀ W, w.grownBy W none → _) := fun W g => check_any b k _ l W (h.grown g)
    rw [hk] at CK
    clear h hr hk
    generalize l.length = N at *
    go_enter Try.func43, Try.ntmps43
    go_wp2_with (go_at_call 44; (with_reducible refine (CK.out _ (GA _)).mono ?_); rintro e w1 ⟨rfl, g1⟩)
    go_ret2
    exact ⟨rfl, grown_tr (GA _) g1⟩
end Go.Proofs.Ytdpcebaggldaiaa
