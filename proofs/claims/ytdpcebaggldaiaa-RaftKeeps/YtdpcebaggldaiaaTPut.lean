/- checked, put. -/
import Derived.Test.YtdpcebaggldaiaaTJoined
namespace Go.Proofs.Ytdpcebaggldaiaa
open Go.RowKit Trl
set_option linter.unusedVariables false
set_option maxRecDepth 10000

/-- A log in memory of its own, or none. -/
def Rz (w : World) (base : Nat) (b k : Int) (o : Option (List En)) (B K : Int) (v : Value) (f : Bool) : Prop :=
  match o with
  | none => B = 0 ∧ K = 0 ∧ v = .slice none 0 0 ∧ f = false
  | some l => B = b ∧ K = k ∧ f = true ∧ eE.Own w base v l
theorem Rz.but {w w' : World} {base : Nat} {b k : Int} {o : Option (List En)} {B K : Int} {v : Value} {f : Bool} {row : Option Nat} (h : Rz w base b k o B K v f) (g : w.grownBy w' row) (hne : ∀ q, v.ownBlock = some q → row ≠ some q) : Rz w' base b k o B K v f := by
  cases o with
  | none => exact h
  | some l => exact ⟨h.1, h.2.1, h.2.2.1, h.2.2.2.but g hne⟩
theorem Rz.low {w : World} {base base' : Nat} {b k : Int} {o : Option (List En)} {B K : Int} {v : Value} {f : Bool} (h : Rz w base b k o B K v f) (hb : base' ≤ base) : Rz w base' b k o B K v f := by
  cases o with
  | none => exact h
  | some l => exact ⟨h.1, h.2.1, h.2.2.1, h.2.2.2.low hb⟩
theorem Rz.lt {w : World} {base : Nat} {b k : Int} {o : Option (List En)} {B K : Int} {v : Value} {f : Bool} (h : Rz w base b k o B K v f) : ∀ q, v.ownBlock = some q → base ≤ q ∧ q < w.heap.size := by
  cases o with
  | none => intro q hq; rw [h.2.2.1] at hq; cases hq
  | some l => exact h.2.2.2.lt
/-- The answer of a call that makes a log. -/
def Rs (w w' : World) (base : Nat) (b k : Int) (o : Option (List En)) (e : Ending) : Prop :=
  ∃ B K a n c f, e = .returned (.tuple #[tv B K (.slice a n c), .bool f]) ∧ Hid (Rz w' base b k o B K (.slice a n c) f) ∧ w.grownBy w' none
def Res (w w' : World) (b k : Int) (o : Option (List En)) (e : Ending) : Prop := Rs w w' w.heap.size b k o e
theorem Rz.none_ {w : World} {base : Nat} {b k : Int} : Rz w base b k none 0 0 (.slice none 0 0) false := ⟨rfl, rfl, rfl, rfl⟩
set_option maxRecDepth 100000 in
set_option maxHeartbeats 1600000 in
theorem checked_any (b k : Int) (ad : Option Addr) (n c base : Nat) (l : List En) (w : World) (h : eE.Own w base (.slice ad n c) l) (hb : base ≤ w.heap.size) :
    Calls Try.prog 78 #[tv b k (.slice ad n c)] w fun e w' => Rs w w' base b k (if chk b k l = true then some l else none) e := by
  have CK : Hid (∀ W, w.grownBy W none → Calls Try.prog 44 #[tv b k (.slice ad n c)] W fun e w' => e = .returned (.bool (chk b k l)) ∧ W.grownBy w' none) := fun W g => check_any b k _ l W ((Sl.own h).grown g)
  have HS : Hid (∀ {W : World}, w.grownBy W none → eE.Own W base (.slice ad n c) l) := fun {W} g => h.grown g
  have GA : Hid (∀ o1 o2, w.grownBy ((w.alloc o1).alloc o2) none) := fun o1 o2 => grown_tr (World.grownBy_alloc w o1 none) (World.grownBy_alloc _ o2 none)
  clear h
  cases hk : chk b k l
  all_goals
    rw [hk] at CK
    clear hk
    go_enter Try.func78, Try.ntmps78
    go_wp2_with (go_at_call 44; (with_reducible refine (CK.out _ (GA.out _ _)).mono ?_); rintro e w1 ⟨rfl, g1⟩; obtain ⟨⟨q0, q1, q2⟩, ⟨z0, z1, z2⟩, zf, zs⟩ := two_kept g1; have f0 := zf 0; have f1 := zf 1; have f2 := zf 2)
  · obtain ⟨s0, s1, s2, sg⟩ := put3 (a := .int .i64 0) (b := .int .i64 0) (c := .slice none 0 0) z0 z1 z2
    exact fin2 rfl rfl (range3 s0 s1 s2) rfl ⟨0, 0, none, 0, 0, false, rfl, Rz.none_, grown_more (grown_tr (GA.out _ _) g1) sg (fun k e => .inr (by injection e with e; omega))⟩
  · obtain ⟨s0, s1, s2, sg⟩ := put3 (a := .int .i64 b) (b := .int .i64 k) (c := .slice ad n c) z0 z1 z2
    have G := grown_more (grown_tr (GA.out _ _) g1) sg (fun k e => .inr (by injection e with e; omega))
    exact fin2 rfl rfl (range3 s0 s1 s2) rfl ⟨b, k, ad, n, c, true, rfl, (⟨rfl, rfl, rfl, HS.out G⟩ : Rz _ base b k (some l) b k (.slice ad n c) true), G⟩
/-- What is known behind each call of put. -/
theorem put_box {w W : World} {b k : Int} {v : Value} (g : ((w.alloc (.cells #[.int .i64 b, .int .i64 k, v] 25)).alloc (.cells #[.int .i64 0, .int .i64 0, .slice none 0 0] 25)).grownBy W none) : w.grownBy W none :=
  grown_tr (grown_tr (World.grownBy_alloc w _ none) (World.grownBy_alloc _ _ none)) g
set_option maxRecDepth 100000 in
set_option maxHeartbeats 3200000 in
theorem put_any (b k p fx : Int) (v u : Value) (l es : List En) (w : World) (h : Sl w v l) (hu : Sl w u es) (hk : chk b k l = true) (hp : b ≤ p) (hp2 : p ≤ b + (l.length : Int)) (hb : es.length * 24 ≤ 140737488351232) :
    Calls Try.prog 69 #[tv b k v, .int .i64 p, u, .int .i64 fx] w fun e w' => Res w w' b k (put b k l p es fx) e := by
  obtain ⟨ad, c, hv, hlc, hc, _⟩ := id h
  subst hv
  obtain ⟨aq, cq, hv, hmc, hcq, _⟩ := id hu
  subst hv
  obtain ⟨p1, p2, p3, p4, p5, p6, p7⟩ := chk_parts hk
  have BH : Hid (∀ W, w.grownBy W none → _) := fun W g => behind_any b k p _ l W (h.grown g) p1 p2 hp hp2 p5
  have AG : Hid (∀ W (x : Value), w.grownBy W none → Sl W x (l.drop (p - b).toNat) → Calls Try.prog 76 #[x, .slice aq es.length cq] W fun e w' => e = .returned (.int .i64 (agr (l.drop (p - b).toNat) es : Nat)) ∧ W.grownBy w' none) := fun W x g hx => agreeing_any x _ _ es W hx (hu.grown g)
  have GA : Hid (∀ o1 o2, w.grownBy ((w.alloc o1).alloc o2) none) := fun o1 o2 => grown_tr (World.grownBy_alloc w o1 none) (World.grownBy_alloc _ o2 none)
  obtain ⟨S, hS⟩ : ∃ S, agr (l.drop (p - b).toNat) es = S := ⟨_, rfl⟩
  have hSl := agr_le (l.drop (p - b).toNat) es
  rw [hS] at AG hSl
  rw [List.length_drop] at hSl
  have hx3 : ∃ a n c', Value.slice ad l.length c = .slice a n c' := ⟨_, _, _, rfl⟩
  by_cases h1 : S = es.length
  · have E : put b k l p es fx = some l := by unfold put; rw [hS, if_pos h1]
    rw [E]
    have JO : Hid (∀ W, w.grownBy W none → _) := fun W g => joined_any b k _ _ _ l [] W hx3 (h.grown g) (Sl.nil W) (by simp; omega)
    rw [List.append_nil] at JO
    clear h hu hk p7 hS E hx3
    subst h1
    generalize es.length = M at *
    generalize l.length = N at *
    go_enter Try.func69, Try.ntmps69
    go_wp2_with (first
      | (go_at_call 77; (with_reducible refine (BH.out _ (GA.out _ _)).mono ?_); rintro e w1 ⟨a5, m5, c5, rfl, hS5, g1⟩; obtain ⟨⟨q0, q1, q2⟩, _⟩ := two_kept g1)
      | (go_at_call 76; (with_reducible refine (AG.out _ _ (put_box g1) hS5).mono ?_); rintro e w2 ⟨rfl, g2⟩; have G2 := grown_tr g1 g2; obtain ⟨⟨r0, r1, r2⟩, ⟨y0, y1, y2⟩, yf, ys⟩ := two_kept G2; have e0 := yf 0; have e1 := yf 1; have e2 := yf 2)
      | (go_at_call 67; (with_reducible refine (JO.out _ (put_box G2)).mono ?_); rintro e w3 ⟨a3, n3, c3, rfl, hO3, g3⟩; have G3 := grown_tr G2 g3; obtain ⟨_, ⟨z0, z1, z2⟩, zf, zs⟩ := two_kept G3; have f0 := zf 0; have f1 := zf 1; have f2 := zf 2))
    obtain ⟨s0, s1, s2, sg⟩ := put3 (a := .int .i64 b) (b := .int .i64 k) (c := .slice a3 n3 c3) z0 z1 z2
    have hb3 := hO3.lt
    have hz := G2.size
    have hz2 := (put_box G2).size
    exact fin2 rfl rfl (range3 s0 s1 s2) rfl ⟨b, k, a3, n3, c3, true, rfl, (⟨rfl, rfl, rfl, (hO3.low hz2).but sg (fun k hk e => by have := (hb3 k hk).1; injection e with e; simp at hz; omega)⟩ : Rz _ w.heap.size b k (some l) b k (.slice a3 n3 c3) true), grown_more (put_box G3) sg (fun k e => .inr (by injection e with e; omega))⟩
  · by_cases h2 : p + (S : Int) + 1 ≤ fx
    · have E : put b k l p es fx = none := by unfold put; rw [hS, if_neg h1, if_pos h2]
      rw [E]
      clear h hu hk p7 hS E hx3
      generalize es.length = M at *
      generalize l.length = N at *
      have d1 : ((S : Int) == (M : Int)) = false := by simp; omega
      go_enter Try.func69, Try.ntmps69
      go_wp2_with (first
      | (go_at_call 77; (with_reducible refine (BH.out _ (GA.out _ _)).mono ?_); rintro e w1 ⟨a5, m5, c5, rfl, hS5, g1⟩; obtain ⟨⟨q0, q1, q2⟩, _⟩ := two_kept g1)
      | (go_at_call 76; (with_reducible refine (AG.out _ _ (put_box g1) hS5).mono ?_); rintro e w2 ⟨rfl, g2⟩; have G2 := grown_tr g1 g2; obtain ⟨⟨r0, r1, r2⟩, ⟨y0, y1, y2⟩, yf, ys⟩ := two_kept G2; have e0 := yf 0; have e1 := yf 1; have e2 := yf 2))
      obtain ⟨s0, s1, s2, sg⟩ := put3 (a := .int .i64 0) (b := .int .i64 0) (c := .slice none 0 0) y0 y1 y2
      exact fin2 rfl rfl (range3 s0 s1 s2) rfl ⟨0, 0, none, 0, 0, false, rfl, Rz.none_, grown_more (put_box G2) sg (fun k e => .inr (by injection e with e; omega))⟩
    · have E : put b k l p es fx = if chk b k (l.take ((p - b).toNat + S) ++ es.drop S) = true then some (l.take ((p - b).toNat + S) ++ es.drop S) else none := by unfold put; rw [hS, if_neg h1, if_neg h2]
      rw [E]
      obtain ⟨a1, c1, hs1, hT⟩ := h.upto (k := (p - b).toNat + S) (by omega)
      obtain ⟨a2, m2, c2, hs2, hm2, hD⟩ := hu.from (k := S) (by omega)
      rw [show (((p - b).toNat + S : Nat) : Int) = p + (S : Int) - b by omega] at hs1
      have hlen : (l.take ((p - b).toNat + S)).length + (es.drop S).length ≤ 4096 + es.length := by rw [List.length_take, List.length_drop]; omega
      have JO : Hid (∀ W, w.grownBy W none → _) := fun W g => joined_any b k _ _ _ _ _ W hx3 (hT.grown g) (hD.grown g) (by omega)
      have CD : Hid (∀ (W : World) (a : Option Addr) (n c base : Nat), eE.Own W base (.slice a n c) (l.take ((p - b).toNat + S) ++ es.drop S) → base ≤ W.heap.size → _) := fun W a n c base hx hb => checked_any b k a n c base _ W hx hb
      clear h hu hk p7 hS E hx3 hlen hT hD
      have wr1 : IntKind.i64.wrap (p + (S : Int) - b) = p + (S : Int) - b := by rw [IntKind.wrap_i64]; omega
      generalize (if chk b k (l.take ((p - b).toNat + S) ++ es.drop S) = true then some (l.take ((p - b).toNat + S) ++ es.drop S) else none) = R at *
      generalize (l.take ((p - b).toNat + S) ++ es.drop S) = L at *
      generalize es.length = M at *
      generalize l.length = N at *
      have d1 : ((S : Int) == (M : Int)) = false := by simp; omega
      go_enter Try.func69, Try.ntmps69
      go_wp2_with (first
      | (go_at_call 77; (with_reducible refine (BH.out _ (GA.out _ _)).mono ?_); rintro e w1 ⟨a5, m5, c5, rfl, hS5, g1⟩; obtain ⟨⟨q0, q1, q2⟩, _⟩ := two_kept g1)
      | (go_at_call 76; (with_reducible refine (AG.out _ _ (put_box g1) hS5).mono ?_); rintro e w2 ⟨rfl, g2⟩; have G2 := grown_tr g1 g2; obtain ⟨⟨r0, r1, r2⟩, ⟨y0, y1, y2⟩, yf, ys⟩ := two_kept G2; have e0 := yf 0; have e1 := yf 1; have e2 := yf 2))
      go_region_with (first
        | (go_at_call 67; (with_reducible refine (JO.out _ (grown_drew (put_box G2))).mono ?_); rintro e w3 ⟨a3, n3, c3, rfl, hO3, g3⟩; have G3 := grown_tr (grown_drew G2) g3)
        | (go_at_call 78; (with_reducible refine (CD.out _ _ _ _ _ hO3 g3.size).mono ?_); rintro e w4 ⟨B4, K4, a4, n4, c4, t4, rfl, hR4, g4⟩; have G4 := grown_tr G3 g4; obtain ⟨_, ⟨z0, z1, z2⟩, zf, zs⟩ := two_kept G4; have f0 := zf 0; have f1 := zf 1; have f2 := zf 2))
      all_goals
        clear hs1 hs2 hm2 BH AG JO CD
        go_wp2_with fail
        obtain ⟨s0, s1, s2, sg⟩ := put3 (a := .int .i64 B4) (b := .int .i64 K4) (c := .slice a4 n4 c4) z0 z1 z2
        have hb3 := hR4.out.lt
        have hz := G2.size
        have hz2 := (put_box G2).size
        exact fin2 rfl rfl (range3 s0 s1 s2) rfl ⟨B4, K4, a4, n4, c4, t4, rfl, (hR4.out.low hz2).but sg (fun k hk e => by have := (hb3 k hk).1; injection e with e; simp at hz this; omega), grown_more (put_box G4) sg (fun k e => .inr (by injection e with e; omega))⟩
end Go.Proofs.Ytdpcebaggldaiaa
