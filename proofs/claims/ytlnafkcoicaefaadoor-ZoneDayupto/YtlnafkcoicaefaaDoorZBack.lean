/- 'ZoneBack', walked. -/
import Derived.Test.YtlnafkcoicaefaaDoorZBackMath
import Derived.Test.YtlnafkcoicaefaaDoorZArgs
namespace Go.Proofs.YtlnafkcoicaefaaDoor
open Go.RowKit
set_option linter.unusedVariables false

/-- The ten cells of a zone's rules that were laid in a new block. -/
structure C10 (w : World) (b : Nat) (z : Zon.Z) : Prop where
  c0 : w.cell? ⟨b, 0, none⟩ = some (.int .i64 z.b)
  c1 : w.cell? ⟨b, 1, none⟩ = some (.int .i64 z.s)
  c2 : w.cell? ⟨b, 2, none⟩ = some (.int .i64 z.on.m)
  c3 : w.cell? ⟨b, 3, none⟩ = some (.int .i64 z.on.k)
  c4 : w.cell? ⟨b, 4, none⟩ = some (.int .i64 z.on.d)
  c5 : w.cell? ⟨b, 5, none⟩ = some (.int .i64 z.on.a)
  c6 : w.cell? ⟨b, 6, none⟩ = some (.int .i64 z.off.m)
  c7 : w.cell? ⟨b, 7, none⟩ = some (.int .i64 z.off.k)
  c8 : w.cell? ⟨b, 8, none⟩ = some (.int .i64 z.off.d)
  c9 : w.cell? ⟨b, 9, none⟩ = some (.int .i64 z.off.a)
theorem c10_new {w w1 : World} {z : Zon.Z} {t : TypeId} (hg : (w.alloc (.cells #[.int .i64 z.b, .int .i64 z.s, .int .i64 z.on.m, .int .i64 z.on.k, .int .i64 z.on.d, .int .i64 z.on.a, .int .i64 z.off.m, .int .i64 z.off.k, .int .i64 z.off.d, .int .i64 z.off.a] t)).grownBy w1 none) : C10 w1 w.heap.size z :=
  ⟨cell_kept hg 0 _ rfl, cell_kept hg 1 _ rfl, cell_kept hg 2 _ rfl, cell_kept hg 3 _ rfl, cell_kept hg 4 _ rfl, cell_kept hg 5 _ rfl, cell_kept hg 6 _ rfl, cell_kept hg 7 _ rfl, cell_kept hg 8 _ rfl, cell_kept hg 9 _ rfl⟩
theorem Kn.alloc {w : World} (h : Kn w) (o : Obj) : Kn (w.alloc o) := h.kept (World.grownBy_alloc w o none) (by simp)

set_option maxRecDepth 100000 in
set_option maxHeartbeats 800000 in
theorem back_bad (w : World) (hK : Kn w) (z : Zon.Z) (hz : ¬ z.ok) (t : Int) :
    Calls Tryd.prog 4 #[zon z, .int .i64 t] w fun e w' => e = .returned (.bool true) ∧ Below w.heap.size w w' := by
  have hnot : ∀ (x : Bool) (w : World), (Op.unary .not (.bool x)).run Tryd.prog w = .ok (.bool (!x)) w := fun _ _ => rfl
  have A := fun o => awake_any (w.alloc o) (hK.alloc o)
  have M := make_bad z hz
  clear hz hK
  go_enter Tryd.func4, Tryd.ntmps4
  go_wp2_with (first
    | (go_at_call 8; go_must (refine (A _).mono ?_); rintro e w1 ⟨rfl, hg1⟩; obtain ⟨c0, c1, c2, c3, c4, c5, c6, c7, c8, c9⟩ := c10_new hg1)
    | (go_at_call 9; go_must (refine (M _).mono ?_); rintro e w2 ⟨rfl, hg2⟩))
  go_ret
  exact ⟨rfl, grown_below (grown_more (grown_more (World.grownBy_alloc w _ none) hg1 (by simp)) hg2 (by simp))⟩

/-- What the law has done once its zone stands: the world w2, the zone in b. -/
theorem below_new {w w2 w3 : World} {b : Nat} (hg : w.grownBy w2 none) (hb : w.heap.size ≤ b) (g : w2.grownBy w3 (some b)) : w.grownBy w3 none :=
  grown_more hg g fun k e => .inr (by injection e with e; omega)

set_option maxRecDepth 100000 in
set_option maxHeartbeats 800000 in
theorem back_time (w : World) (hK : Kn w) (z : Zon.Z) (hz : z.ok) (t : Int) (ht : t < 0 ∨ 226157759 < t) :
    Calls Tryd.prog 4 #[zon z, .int .i64 t] w fun e w' => e = .returned (.bool true) ∧ Below w.heap.size w w' := by
  have hnot : ∀ (x : Bool) (w : World), (Op.unary .not (.bool x)).run Tryd.prog w = .ok (.bool (!x)) w := fun _ _ => rfl
  have A := fun o => awake_any (w.alloc o) (hK.alloc o)
  have M := make_ok z hz
  have LB := fun b => local_bad b t ht
  clear hz hK ht
  go_enter Tryd.func4, Tryd.ntmps4
  go_wp2_with (first
    | (go_at_call 8; go_must (refine (A _).mono ?_); rintro e w1 ⟨rfl, hg1⟩; obtain ⟨c0, c1, c2, c3, c4, c5, c6, c7, c8, c9⟩ := c10_new hg1)
    | (go_at_call 9; go_must (refine (M _).mono ?_); rintro e w2 ⟨b, rfl, hg2, hb1, hb2, hZ⟩)
    | (go_at_call 14; go_must (refine (LB b _).mono ?_); rintro e w3 ⟨rfl, hg3⟩))
  go_ret
  exact ⟨rfl, grown_below (grown_alloc (grown_more (grown_more (grown_more (World.grownBy_alloc w _ none) hg1 (by simp)) hg2 (by simp)) hg3 (by simp)) _)⟩

set_option maxRecDepth 100000 in
set_option maxHeartbeats 800000 in
theorem back_none (w : World) (hK : Kn w) (z : Zon.Z) (hz : z.ok) (t : Int) (t1 : 0 ≤ t) (t2 : t ≤ 226157759) (hL : t + z.at t < 0 ∨ 226157759 < t + z.at t) :
    Calls Tryd.prog 4 #[zon z, .int .i64 t] w fun e w' => e = .returned (.bool true) ∧ Below w.heap.size w w' := by
  have hnot : ∀ (x : Bool) (w : World), (Op.unary .not (.bool x)).run Tryd.prog w = .ok (.bool (!x)) w := fun _ _ => rfl
  have A := fun o => awake_any (w.alloc o) (hK.alloc o)
  have M := make_ok z hz
  have LB := fun b w hw => local_by b z hz t t1 t2 0 0 0 0 0 0 30 (from_bad _ hL) w hw
  clear hz hK hL
  go_enter Tryd.func4, Tryd.ntmps4
  go_wp2_with (first
    | (go_at_call 8; go_must (refine (A _).mono ?_); rintro e w1 ⟨rfl, hg1⟩; obtain ⟨c0, c1, c2, c3, c4, c5, c6, c7, c8, c9⟩ := c10_new hg1)
    | (go_at_call 9; go_must (refine (M _).mono ?_); rintro e w2 ⟨b, rfl, hg2, hb1, hb2, hZ⟩)
    | (go_at_call 14; go_must (refine (LB b _ hZ).mono ?_); rintro e w3 ⟨rfl, s3, hR3, hg3⟩))
  have hs1 := hg1.size
  simp at hs1
  have G := below_new (grown_more (grown_more (World.grownBy_alloc w _ none) hg1 (by simp)) hg2 (by simp)) (b := b) (by omega) hg3
  go_ret
  exact ⟨rfl, grown_below (grown_alloc G _)⟩

theorem rise_of {l : List Int} (H : ∀ a c r, l = a :: c :: r → a < c) (hl : 2 ≤ l.length) : l.getD 0 0 < l.getD 1 0 := by
  match l, hl, H with
  | [], hl, _ => simp at hl
  | [x], hl, _ => simp at hl
  | x :: y :: r, _, H => exact H x y r rfl
theorem neq_civ (y m d h n k : Int) (w : World) : (binOp .neq 37 (.agg #[.int .i64 y, .int .i64 m, .int .i64 d, .int .i64 h, .int .i64 n, .int .i64 k]) (.agg #[.int .i64 y, .int .i64 m, .int .i64 d, .int .i64 h, .int .i64 n, .int .i64 k])).run Tryd.prog w = .ok (.bool false) w := by go_simp

set_option maxRecDepth 100000 in
set_option maxHeartbeats 3200000 in
theorem back_ok (w : World) (hK : Kn w) (z : Zon.Z) (hz : z.ok) (t : Int) (t1 : 0 ≤ t) (t2 : t ≤ 226157759) (y m d h n k : Int) (hT : Thr y m d h n) (hL : t + z.at t = inst y m d h n)
    (F : ∀ w, Calls Tryd.prog 19 #[.int .i64 (inst y m d h n)] w fun e w' => e = .returned (.tuple #[civ y m d h n k, .int .i64 0]) ∧ w.grownBy w' none) :
    Calls Tryd.prog 4 #[zon z, .int .i64 t] w fun e w' => e = .returned (.bool true) ∧ Below w.heap.size w w' := by
  have hnot : ∀ (x : Bool) (w : World), (Op.unary .not (.bool x)).run Tryd.prog w = .ok (.bool (!x)) w := fun _ _ => rfl
  have A := fun o => awake_any (w.alloc o) (hK.alloc o)
  have M := make_ok z hz
  have LB := fun b w hw => local_by b z hz t t1 t2 y m d h n k 0 (by rw [hL]; exact F) w hw
  have IN := fun b w hw => instants_any b z hz y m d h n k hT w hw
  have hmem := Zon.mem_ins (z := z) t1 t2
  rw [hL] at hmem
  have LE : ∀ b, ∀ e, e ∈ z.ins (inst y m d h n) → ∀ w, Zn w b z → Calls Tryd.prog 14 #[.pointer (some ⟨b, 0, none⟩), .int .i64 e] w fun e w' => e = .returned (.tuple #[civ y m d h n k, .int .i64 0]) ∧ ∃ s, Rdy w' b z s ∧ w.grownBy w' (some b) := fun b e he w hw => by
    obtain ⟨e1, e2, e3⟩ := Zon.ins_mem he
    exact local_by b z hz e e1 e2 y m d h n k 0 (by rw [e3]; exact F) w hw
  have hlen := Zon.ins_len z (inst y m d h n)
  have HRI : Hid (∀ a c r, z.ins (inst y m d h n) = a :: c :: r → a < c) := fun a c r e => (Zon.ins_rise hz e).1
  generalize z.ins (inst y m d h n) = l at IN hmem LE hlen HRI
  have HM : Hid (Zon.fnd l t l.length = true) := Zon.fnd_all hmem
  clear hmem F hT hL hK hz t1 t2
  have NQ := neq_civ y m d h n k
  go_enter Tryd.func4, Tryd.ntmps4
  go_wp2_with (first
    | (go_at_call 8; go_must (refine (A _).mono ?_); rintro e w1 ⟨rfl, hg1⟩; obtain ⟨c0, c1, c2, c3, c4, c5, c6, c7, c8, c9⟩ := c10_new hg1)
    | (go_at_call 9; go_must (refine (M _).mono ?_); rintro e w2 ⟨b, rfl, hg2, hb1, hb2, hZ⟩)
    | (go_at_call 14; go_must (refine (LB b _ hZ).mono ?_); rintro e w3 ⟨rfl, s3, hR3, hg3⟩)
    | (go_at_call 12; go_must (refine (IN b _ (hR3.zn.kept (World.grownBy_alloc w3 _ none))).mono ?_); rintro e w5 ⟨v, rfl, hO, hZ5, hg5⟩))
  have hs1 := hg1.size
  simp at hs1
  have hs3 := hg3.size
  have G := below_new (grown_more (grown_more (World.grownBy_alloc w _ none) hg1 (by simp)) hg2 (by simp)) (b := b) (by omega) hg3
  have G5 := below_new (grown_alloc G (.cells #[.int .i64 y, .int .i64 m, .int .i64 d, .int .i64 h, .int .i64 n, .int .i64 k] 37)) (b := b) (by omega) hg5
  have hC : C6 w5 w3.heap.size y m d h n k := ⟨cell_kept_b hg5 (by omega) 0 _ rfl, cell_kept_b hg5 (by omega) 1 _ rfl, cell_kept_b hg5 (by omega) 2 _ rfl, cell_kept_b hg5 (by omega) 3 _ rfl, cell_kept_b hg5 (by omega) 4 _ rfl, cell_kept_b hg5 (by omega) 5 _ rfl⟩
  have hne : l ≠ [] := fun e => by have := HM.out; rw [e] at this; cases this
  obtain ⟨g, cap, rfl, hgb, hc⟩ : ∃ g cap, v = .slice (some ⟨g, 0, none⟩) l.length cap ∧ (w3.alloc (.cells #[.int .i64 y, .int .i64 m, .int .i64 d, .int .i64 h, .int .i64 n, .int .i64 k] 37)).heap.size ≤ g ∧ ∀ i, i < l.length → w5.cell? ⟨g, i, none⟩ = some (.int .i64 (l.getD i 0)) := by
    rcases hO.row with ⟨e, _⟩ | h
    · exact absurd e hne
    · exact h
  simp at hgb
  have CG : Hid (∀ wr, w5.grownBy wr (some b) → ∀ i, i < l.length → wr.cell? ⟨g, i, none⟩ = some (.int .i64 (l.getD i 0))) := fun wr hr i hi => hr.cell (hc i hi) (by simp; omega)
  have CC : Hid (∀ wr, w5.grownBy wr (some b) → C6 wr w3.heap.size y m d h n k) := fun wr hr => ⟨hr.cell hC.c0 (by simp; omega), hr.cell hC.c1 (by simp; omega), hr.cell hC.c2 (by simp; omega), hr.cell hC.c3 (by simp; omega), hr.cell hC.c4 (by simp; omega), hr.cell hC.c5 (by simp; omega)⟩
  have HGB : some g ≠ some b := by simp; omega
  have HE : Hid (∀ j, j < l.length → l.getD j 0 ∈ l) := fun j hj => by rw [List.getD_eq_getElem?_getD, List.getElem?_eq_getElem hj]; exact List.getElem_mem hj
  have hbw : w.heap.size ≤ b := by omega
  have h3b : b < w3.heap.size := by omega
  have hs5 := hg5.size
  simp at hs5
  have h35 : w3.heap.size < w5.heap.size := by omega
  obtain ⟨B3, hB3⟩ : ∃ B3, B3 = w3.heap.size := ⟨_, rfl⟩
  rw [← hB3] at CC h3b h35 ⊢
  obtain ⟨len, hn⟩ : ∃ len, len = l.length := ⟨_, rfl⟩
  rw [← hn] at CG hlen HM HE ⊢
  have HN : Hid (len = l.length) := hn
  clear hc hC hO hg1 hg2 hg3 hg5 G hs1 hs3 hs5 hb1 hb2 hZ hR3 c0 c1 c2 c3 c4 c5 c6 c7 c8 c9 A M LB IN hn hB3 hgb hne
  go_loopw [10, 11] (fun f i wr => ∃ j : Nat, j ≤ len ∧ i = .int .i64 j ∧ f = .bool (Zon.fnd l t j) ∧ Zn wr b z ∧ w5.grownBy wr (some b)) (fun _ i _ => (10 - intOf i).toNat)
  case atStart => exact ⟨0, by omega, rfl, rfl, hZ5, grown_refl _ _⟩
  case round =>
    obtain ⟨j, hj, rfl, rfl, hZ, hG⟩ := hrel
    by_cases hjn : j < len
    · have cj := CG.out _ hG j hjn
      have L1 := LE b _ (HE.out j hjn) wr hZ
      have HFj : Hid (Zon.fnd l t (j + 1) = (Zon.fnd l t j || (l.getD j 0 == t))) := rfl
      by_cases hj0 : j = 0
      · subst hj0
        generalize l.getD 0 0 = a at cj L1 HFj
        have hf0 : Zon.fnd l t 0 = false := rfl
        rw [hf0]
        go_wp2_with (go_at_call 14; go_must (refine L1.mono ?_); rintro e w6 ⟨rfl, s6, hR6, hg6⟩; have c6j := hg6.cell cj HGB; have d6j := cell_alloc c6j; obtain ⟨k0, k1, k2, k3, k4, k5⟩ := CC.out _ (grown_more hG hg6 (by simp)); have l0 := cell_alloc k0; have l1 := cell_alloc k1; have l2 := cell_alloc k2; have l3 := cell_alloc k3; have l4 := cell_alloc k4; have l5 := cell_alloc k5)
        go_quiet (fail)
        go_wp2_with fail
        go_roundw
        case rel => exact ⟨1, by omega, rfl, congrArg Value.bool (by rw [show Zon.fnd l t 1 = (Zon.fnd l t 0 || (a == t)) from HFj.out, hf0]; rfl), (hR6.zn.kept (World.grownBy_alloc w6 _ none)).kept (grown_drewN (grown_refl _ none) _), grown_drewN (grown_alloc (grown_more hG hg6 (by simp)) _) _⟩
        case measure => simp [intOf]
      · obtain rfl : j = 1 := by omega
        have ci := CG.out _ hG 0 (by omega)
        have hlt := rise_of HRI.out (by have := HN.out; omega)
        generalize l.getD 1 0 = a at cj L1 HFj hlt
        generalize l.getD 0 0 = a0 at ci hlt
        have hge : decide (a ≤ a0) = false := decide_eq_false (by omega)
        generalize hq : Zon.fnd l t 1 = q at HFj
        clear hlt
        cases q
        · go_wp2_with (go_at_call 14; go_must (refine L1.mono ?_); rintro e w6 ⟨rfl, s6, hR6, hg6⟩; have c6j := hg6.cell cj HGB; have d6j := cell_alloc c6j; have c6i := hg6.cell ci HGB; have d6i := cell_alloc c6i; obtain ⟨k0, k1, k2, k3, k4, k5⟩ := CC.out _ (grown_more hG hg6 (by simp)); have l0 := cell_alloc k0; have l1 := cell_alloc k1; have l2 := cell_alloc k2; have l3 := cell_alloc k3; have l4 := cell_alloc k4; have l5 := cell_alloc k5)
          go_quiet (fail)
          go_wp2_with fail
          go_roundw
          case rel => exact ⟨2, by omega, rfl, congrArg Value.bool (by rw [show Zon.fnd l t 2 = (false || (a == t)) from HFj.out]; rfl), (hR6.zn.kept (World.grownBy_alloc w6 _ none)).kept (grown_drewN (grown_refl _ none) _), grown_drewN (grown_alloc (grown_more hG hg6 (by simp)) _) _⟩
          case measure => simp [intOf]
        · go_wp2_with (go_at_call 14; go_must (refine L1.mono ?_); rintro e w6 ⟨rfl, s6, hR6, hg6⟩; have c6j := hg6.cell cj HGB; have d6j := cell_alloc c6j; have c6i := hg6.cell ci HGB; have d6i := cell_alloc c6i; obtain ⟨k0, k1, k2, k3, k4, k5⟩ := CC.out _ (grown_more hG hg6 (by simp)); have l0 := cell_alloc k0; have l1 := cell_alloc k1; have l2 := cell_alloc k2; have l3 := cell_alloc k3; have l4 := cell_alloc k4; have l5 := cell_alloc k5)
          go_quiet (fail)
          go_wp2_with fail
          go_roundw
          case rel => exact ⟨2, by omega, rfl, congrArg Value.bool (by rw [show Zon.fnd l t 2 = (true || (a == t)) from HFj.out]; rfl), (hR6.zn.kept (World.grownBy_alloc w6 _ none)).kept (grown_drewN (grown_refl _ none) _), grown_drewN (grown_alloc (grown_more hG hg6 (by simp)) _) _⟩
          case measure => simp [intOf]
    · obtain rfl : j = len := by omega
      have hf := HM.out
      rw [hf]
      go_wp2_with fail
      go_ret
      exact ⟨ret_bool (by simp; omega), grown_below (below_new G5 hbw hG)⟩

/-- For every zone's rules and every number 'ZoneBack' answers true. -/
theorem zoneBack.walk0 (w : World) (hK : Kn w) (z : Zon.Z) (t : Int) :
    Calls Tryd.prog 4 #[zon z, .int .i64 t] w fun e w' => e = .returned (.bool true) ∧ Below w.heap.size w w' := by
  by_cases hz : z.ok
  · by_cases ht : 0 ≤ t ∧ t ≤ 226157759
    · obtain ⟨t1, t2⟩ := ht
      by_cases hL : 0 ≤ t + z.at t ∧ t + z.at t ≤ 226157759
      · obtain ⟨y, m, d, hA⟩ := Civ.At.is (n := (t + z.at t) / 1440) (by omega) (by omega)
        have hT : Thr y m d ((t + z.at t) % 1440 / 60) ((t + z.at t) % 60) := ⟨hA.d1, by rw [hA.dys]; exact hA.d2, by omega, by omega, by omega, by omega⟩
        have hI : t + z.at t = inst y m d ((t + z.at t) % 1440 / 60) ((t + z.at t) % 60) := by
          have hn := hA.n
          unfold inst
          omega
        refine back_ok w hK z hz t t1 t2 y m d _ _ (Civ.wk ((t + z.at t) / 1440)) hT hI ?_
        rw [← hI]
        exact from_at hA
      · exact back_none w hK z hz t t1 t2 (by omega)
    · exact back_time w hK z hz t (by omega)
  · exact back_bad w hK z hz t
theorem zoneBack.walk (w : World) (hK : Kn w) (v : Value) (hv : ∃ z, v = zon z) (t : Int) (_ : (Lit.int .i64 t).wf = true) :
    Calls Tryd.prog 4 #[v, .int .i64 t] w fun e w' => e = .returned (.bool true) ∧ Below w.heap.size w w' := by
  obtain ⟨z, rfl⟩ := hv
  exact zoneBack.walk0 w hK z t
end Go.Proofs.YtlnafkcoicaefaaDoor
