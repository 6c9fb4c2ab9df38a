/- Which messages are taken. -/
import Derived.Test.YtdpcebaggldaiaaGRight
import Derived.Test.YtdpcebaggldaiaaGSend
namespace Go.Proofs.Ytdpcebaggldaiaa
open Go.RowKit Trl
open Rft (Nd Mg)
set_option linter.unusedVariables false
set_option maxRecDepth 10000

/-- A message that is read. -/
structure Rdm (w : World) (g : Mg) (u : S3) : Prop where
  e : Sl w (.slice u.a u.n u.c) g.es
  el : u.n = g.es.length
  eb : g.es.length * 24 ≤ 140737488351232
theorem Rdm.grown {w w' : World} {g : Mg} {u : S3} (h : Rdm w g u) (gr : w.grownBy w' none) : Rdm w' g u := ⟨h.e.grown gr, h.el, h.eb⟩
/-- The entries of a message. -/
def Rft.entsOk (g : Mg) : Bool := decide (g.es.length ≤ 8) && (chk 1 g.logt g.es && decide (lastT g.logt g.es ≤ g.term))
set_option maxRecDepth 100000 in
set_option maxHeartbeats 1600000 in
theorem takesEntries_any (g : Mg) (u : S3) (w : World) (h : Rdm w g u) : Calls Try.prog 30 #[mv g u] w fun e w' => e = .returned (.bool (Rft.entsOk g)) ∧ w.grownBy w' none := by
  have LA : Hid (∀ W, w.grownBy W none → _) := fun W gr => last_or 1 g.logt _ g.es W (h.e.grown gr)
  have CK : Hid (∀ W, w.grownBy W none → _) := fun W gr => check_any 1 g.logt _ g.es W (h.e.grown gr)
  have G0 : Hid (w.grownBy (w.alloc (.cells #[.int .i64 g.kind, .int .i64 g.fm, .int .i64 g.tt, .int .i64 g.term, .int .i64 g.index, .int .i64 g.logt, .int .i64 g.com, .bool g.yes, .slice u.a u.n u.c, .string g.data] 30)) none) := World.grownBy_alloc w _ none
  have BX : Hid (∀ {W : World}, (w.alloc (.cells #[.int .i64 g.kind, .int .i64 g.fm, .int .i64 g.tt, .int .i64 g.term, .int .i64 g.index, .int .i64 g.logt, .int .i64 g.com, .bool g.yes, .slice u.a u.n u.c, .string g.data] 30)).grownBy W none → Cs W w.heap.size (mc (g, u)) ∧ w.grownBy W none) := fun {W} gr => ⟨box_msg gr, grown_tr (World.grownBy_alloc w _ none) gr⟩
  have el := h.el
  have hR : Hid (Rft.entsOk g = (decide (g.es.length ≤ 8) && (chk 1 g.logt g.es && decide (lastT g.logt g.es ≤ g.term)))) := rfl
  have KE : Hid (chk 1 g.logt g.es = true → lastK 1 g.logt g.es = lastT g.logt g.es) := fun hc => by unfold lastK; rw [if_pos hc]
  rw [← el] at hR
  generalize Rft.entsOk g = R at *
  have q5 : (w.alloc (.cells #[.int .i64 g.kind, .int .i64 g.fm, .int .i64 g.tt, .int .i64 g.term, .int .i64 g.index, .int .i64 g.logt, .int .i64 g.com, .bool g.yes, .slice u.a u.n u.c, .string g.data] 30)).cell? ⟨w.heap.size, 5, none⟩ = some (.int .i64 g.logt) := (BX.out (grown_refl _ none)).1.at_ 5 rfl
  have q8 : (w.alloc (.cells #[.int .i64 g.kind, .int .i64 g.fm, .int .i64 g.tt, .int .i64 g.term, .int .i64 g.index, .int .i64 g.logt, .int .i64 g.com, .bool g.yes, .slice u.a u.n u.c, .string g.data] 30)).cell? ⟨w.heap.size, 8, none⟩ = some (.slice u.a u.n u.c) := (BX.out (grown_refl _ none)).1.at_ 8 rfl
  generalize hC : chk 1 g.logt g.es = C at *
  generalize lastK 1 g.logt g.es = q at *
  generalize lastN 1 g.logt g.es = q' at *
  generalize lastT g.logt g.es = ql at *
  clear h el hC
  by_cases h8 : u.n ≤ 8
  · have d8 : decide ((8 : Int) < (u.n : Int)) = false := decide_eq_false (by omega)
    have hR' : Hid (R = (C && decide (ql ≤ g.term))) := hR.out.trans (by rw [decide_eq_true h8]; rfl)
    have B2 : Hid (∀ {W : World} {o : Obj}, ((w.alloc (.cells #[.int .i64 g.kind, .int .i64 g.fm, .int .i64 g.tt, .int .i64 g.term, .int .i64 g.index, .int .i64 g.logt, .int .i64 g.com, .bool g.yes, .slice u.a u.n u.c, .string g.data] 30)).alloc o).grownBy W none → W.cell? ⟨w.heap.size, 3, none⟩ = some (.int .i64 g.term) ∧ w.grownBy W none) := fun {W o} gr => by
      obtain ⟨hc, hg⟩ := BX.out (grown_tr (World.grownBy_alloc _ o none) gr)
      exact ⟨hc.at_ 3 rfl, hg⟩
    have B3 : Hid (∀ {W : World}, ((w.alloc (.cells #[.int .i64 g.kind, .int .i64 g.fm, .int .i64 g.tt, .int .i64 g.term, .int .i64 g.index, .int .i64 g.logt, .int .i64 g.com, .bool g.yes, .slice u.a u.n u.c, .string g.data] 30)).alloc (.cells #[.int .i64 1, .int .i64 g.logt, .slice u.a u.n u.c] 25)).grownBy W none → W.cell? ⟨w.heap.size + 1, 0, none⟩ = some (.int .i64 1) ∧ W.cell? ⟨w.heap.size + 1, 1, none⟩ = some (.int .i64 g.logt) ∧ W.cell? ⟨w.heap.size + 1, 2, none⟩ = some (.slice u.a u.n u.c)) := fun {W} gr => by
      have := box_kept gr
      have e : (w.alloc (.cells #[.int .i64 g.kind, .int .i64 g.fm, .int .i64 g.tt, .int .i64 g.term, .int .i64 g.index, .int .i64 g.logt, .int .i64 g.com, .bool g.yes, .slice u.a u.n u.c, .string g.data] 30)).heap.size = w.heap.size + 1 := by simp
      rw [e] at this
      exact this
    have G1 : Hid (∀ o, w.grownBy ((w.alloc (.cells #[.int .i64 g.kind, .int .i64 g.fm, .int .i64 g.tt, .int .i64 g.term, .int .i64 g.index, .int .i64 g.logt, .int .i64 g.com, .bool g.yes, .slice u.a u.n u.c, .string g.data] 30)).alloc o) none) := fun o => grown_alloc G0.out o
    clear hR
    cases C with
    | false =>
      go_enter Try.func30, Try.ntmps30
      go_wp2_with (first
        | (go_at_call 43; (with_reducible refine (LA.out _ (G1.out _)).mono ?_); rintro e w1 ⟨rfl, g1⟩; obtain ⟨d3, H1⟩ := B2.out g1; obtain ⟨e0, e1, e2⟩ := B3.out g1)
        | (go_at_call 44; (with_reducible refine (CK.out _ H1).mono ?_); rintro e w2 ⟨rfl, g2⟩))
      go_ret
      exact ⟨by rw [hR'.out]; rfl, grown_tr H1 g2⟩
    | true =>
      have hq : Hid (q = ql) := KE.out rfl
      go_enter Try.func30, Try.ntmps30
      go_wp2_with (first
        | (go_at_call 43; (with_reducible refine (LA.out _ (G1.out _)).mono ?_); rintro e w1 ⟨rfl, g1⟩; obtain ⟨d3, H1⟩ := B2.out g1; obtain ⟨e0, e1, e2⟩ := B3.out g1)
        | (go_at_call 44; (with_reducible refine (CK.out _ H1).mono ?_); rintro e w2 ⟨rfl, g2⟩; obtain ⟨f3, _⟩ := B2.out (grown_tr g1 g2)))
      go_ret
      exact ⟨by rw [hR'.out, ← hq.out]; rfl, grown_tr H1 g2⟩
  · have d8 : decide ((8 : Int) < (u.n : Int)) = true := decide_eq_true (by omega)
    have hR' : Hid (R = false) := hR.out.trans (by rw [decide_eq_false h8]; rfl)
    clear hR LA CK
    go_enter Try.func30, Try.ntmps30
    go_wp2_with fail
    go_ret
    exact ⟨by rw [hR'.out]; rfl, G0.out⟩
/-- A message is taken, as the program looks at it. -/
def Rft.takesW (r : Nd) (g : Mg) : Bool := decide (1 ≤ g.kind ∧ g.kind ≤ 5) && (decide (g.tt = r.id) && !decide (g.fm = r.id) && Quo.has r.conf g.fm) && (decide (1 ≤ g.term ∧ g.term ≤ 1099511627776) && decide (0 ≤ g.index ∧ g.index ≤ 1099511627776) && decide (0 ≤ g.logt ∧ g.logt ≤ g.term) && decide (0 ≤ g.com ∧ g.com ≤ 1099511627776)) && (Rft.entsOk g && decide (g.data.size ≤ 60000))
theorem lastT_ne (k k' : Int) : ∀ (l : List En), l ≠ [] → lastT k l = lastT k' l := by
  intro l hl
  cases l with
  | nil => exact absurd rfl hl
  | cons x l => rfl
theorem takes_is (r : Nd) (g : Mg) : Rft.takes r g = Rft.takesW r g := by
  unfold Rft.takes Rft.takesW Rft.entsOk
  simp only [Bool.decide_and]
  by_cases h1 : 1 ≤ g.term ∧ g.term ≤ 1099511627776 ∧ 0 ≤ g.logt ∧ g.logt ≤ g.term ∧ g.es.length ≤ 8
  · obtain ⟨h1, h2, h3, h4, h5⟩ := h1
    have hc : chk 1 g.logt g.es = foll g.logt g.es := chk_good (by omega) (by omega) (by omega) (by omega) (by omega) (by omega) (by omega)
    have hl : (decide (g.es.length = 0) || decide (lastT 0 g.es ≤ g.term)) = decide (lastT g.logt g.es ≤ g.term) := by
      by_cases he : g.es = []
      · rw [he]; simp [lastT, h4]
      · rw [decide_eq_false (by simpa using he), Bool.false_or, lastT_ne 0 g.logt _ he]
    rw [hc, hl, decide_eq_true h5]
    generalize foll g.logt g.es = a1
    generalize decide (lastT g.logt g.es ≤ g.term) = a2
    generalize decide (g.data.size ≤ 60000) = a3
    generalize decide (1 ≤ g.kind) = b1
    generalize decide (g.kind ≤ 5) = b2
    generalize decide (g.tt = r.id) = b3
    generalize decide (g.fm = r.id) = b4
    generalize Quo.has r.conf g.fm = b5
    generalize decide (1 ≤ g.term) = c1
    generalize decide (g.term ≤ 1099511627776) = c2
    generalize decide (0 ≤ g.index) = c3
    generalize decide (g.index ≤ 1099511627776) = c4
    generalize decide (0 ≤ g.logt) = c5
    generalize decide (g.logt ≤ g.term) = c6
    generalize decide (0 ≤ g.com) = c7
    generalize decide (g.com ≤ 1099511627776) = c8
    have key : ∀ x y : Bool, (x = true ↔ y = true) → x = y := fun x y h => by cases x <;> cases y <;> simp_all
    apply key
    simp only [Bool.and_eq_true]
    grind
  · have key : ∀ x y : Bool, (x = true ↔ y = true) → x = y := fun x y h => by cases x <;> cases y <;> simp_all
    apply key
    simp only [Bool.and_eq_true, decide_eq_true_eq]
    grind
set_option maxRecDepth 100000 in
set_option maxHeartbeats 3200000 in
theorem takes_any (r : Nd) (V : Sv) (g : Mg) (u : S3) (w : World) (h : Rdn w r V) (hm : Rdm w g u) : Calls Try.prog 14 #[nv r V, mv g u] w fun e w' => e = .returned (.bool (Rft.takes r g)) ∧ w.grownBy w' none := by
  rw [takes_is]
  have cb := h.cb
  have CO : Hid (∀ W, w.grownBy W none → _) := fun W gr => contains_any _ r.conf g.fm W (h.c.grown gr) (by omega)
  have WK : Hid (∀ W, _) := fun W => withinK_any g.kind 1 5 W
  have W1 : Hid (∀ W, _) := fun W => withinN_any g.term 1 1099511627776 W
  have W2 : Hid (∀ W, _) := fun W => withinN_any g.index 0 1099511627776 W
  have W3 : Hid (∀ W, _) := fun W => withinN_any g.logt 0 g.term W
  have W4 : Hid (∀ W, _) := fun W => withinN_any g.com 0 1099511627776 W
  have TE : Hid (∀ W, w.grownBy W none → _) := fun W gr => takesEntries_any g u W (hm.grown gr)
  have G0 : Hid (w.grownBy ((w.alloc (.cells #[.int .i64 r.id, .slice V.c.a V.c.n V.c.c, .int .i64 r.term, .int .i64 r.vote, .int .i64 r.role, .int .i64 r.lead, .int .i64 r.b, .int .i64 r.k, .slice V.e.a V.e.n V.e.c, .string r.snap, .int .i64 r.com, .int .i64 r.left, .int .i64 r.wait, .slice V.v.a V.v.n V.v.c, .slice V.n.a V.n.n V.n.c, .slice V.m.a V.m.n V.m.c] 28)).alloc (.cells #[.int .i64 g.kind, .int .i64 g.fm, .int .i64 g.tt, .int .i64 g.term, .int .i64 g.index, .int .i64 g.logt, .int .i64 g.com, .bool g.yes, .slice u.a u.n u.c, .string g.data] 30)) none) := grown_alloc (World.grownBy_alloc w _ none) _
  have C1 : Cs ((w.alloc (.cells #[.int .i64 r.id, .slice V.c.a V.c.n V.c.c, .int .i64 r.term, .int .i64 r.vote, .int .i64 r.role, .int .i64 r.lead, .int .i64 r.b, .int .i64 r.k, .slice V.e.a V.e.n V.e.c, .string r.snap, .int .i64 r.com, .int .i64 r.left, .int .i64 r.wait, .slice V.v.a V.v.n V.v.c, .slice V.n.a V.n.n V.n.c, .slice V.m.a V.m.n V.m.c] 28)).alloc (.cells #[.int .i64 g.kind, .int .i64 g.fm, .int .i64 g.tt, .int .i64 g.term, .int .i64 g.index, .int .i64 g.logt, .int .i64 g.com, .bool g.yes, .slice u.a u.n u.c, .string g.data] 30)) w.heap.size (nc r V) := (box_node (World.grownBy_alloc _ _ none)).1
  have C2 : ∀ {W : World}, ((w.alloc (.cells #[.int .i64 r.id, .slice V.c.a V.c.n V.c.c, .int .i64 r.term, .int .i64 r.vote, .int .i64 r.role, .int .i64 r.lead, .int .i64 r.b, .int .i64 r.k, .slice V.e.a V.e.n V.e.c, .string r.snap, .int .i64 r.com, .int .i64 r.left, .int .i64 r.wait, .slice V.v.a V.v.n V.v.c, .slice V.n.a V.n.n V.n.c, .slice V.m.a V.m.n V.m.c] 28)).alloc (.cells #[.int .i64 g.kind, .int .i64 g.fm, .int .i64 g.tt, .int .i64 g.term, .int .i64 g.index, .int .i64 g.logt, .int .i64 g.com, .bool g.yes, .slice u.a u.n u.c, .string g.data] 30)).grownBy W none → Cs W (w.heap.size + 1) (mc (g, u)) := fun {W} gr => by
    have := box_msg (w := w.alloc (.cells #[.int .i64 r.id, .slice V.c.a V.c.n V.c.c, .int .i64 r.term, .int .i64 r.vote, .int .i64 r.role, .int .i64 r.lead, .int .i64 r.b, .int .i64 r.k, .slice V.e.a V.e.n V.e.c, .string r.snap, .int .i64 r.com, .int .i64 r.left, .int .i64 r.wait, .slice V.v.a V.v.n V.v.c, .slice V.n.a V.n.n V.n.c, .slice V.m.a V.m.n V.m.c] 28)) (x := (g, u)) gr
    have e : (w.alloc (.cells #[.int .i64 r.id, .slice V.c.a V.c.n V.c.c, .int .i64 r.term, .int .i64 r.vote, .int .i64 r.role, .int .i64 r.lead, .int .i64 r.b, .int .i64 r.k, .slice V.e.a V.e.n V.e.c, .string r.snap, .int .i64 r.com, .int .i64 r.left, .int .i64 r.wait, .slice V.v.a V.v.n V.v.c, .slice V.n.a V.n.n V.n.c, .slice V.m.a V.m.n V.m.c] 28)).heap.size = w.heap.size + 1 := by simp
    rw [e] at this
    exact this
  have r0 : ((w.alloc (.cells #[.int .i64 r.id, .slice V.c.a V.c.n V.c.c, .int .i64 r.term, .int .i64 r.vote, .int .i64 r.role, .int .i64 r.lead, .int .i64 r.b, .int .i64 r.k, .slice V.e.a V.e.n V.e.c, .string r.snap, .int .i64 r.com, .int .i64 r.left, .int .i64 r.wait, .slice V.v.a V.v.n V.v.c, .slice V.n.a V.n.n V.n.c, .slice V.m.a V.m.n V.m.c] 28)).alloc (.cells #[.int .i64 g.kind, .int .i64 g.fm, .int .i64 g.tt, .int .i64 g.term, .int .i64 g.index, .int .i64 g.logt, .int .i64 g.com, .bool g.yes, .slice u.a u.n u.c, .string g.data] 30)).cell? ⟨w.heap.size, 0, none⟩ = some (.int .i64 r.id) := C1.at_ 0 rfl
  have r1 : ((w.alloc (.cells #[.int .i64 r.id, .slice V.c.a V.c.n V.c.c, .int .i64 r.term, .int .i64 r.vote, .int .i64 r.role, .int .i64 r.lead, .int .i64 r.b, .int .i64 r.k, .slice V.e.a V.e.n V.e.c, .string r.snap, .int .i64 r.com, .int .i64 r.left, .int .i64 r.wait, .slice V.v.a V.v.n V.v.c, .slice V.n.a V.n.n V.n.c, .slice V.m.a V.m.n V.m.c] 28)).alloc (.cells #[.int .i64 g.kind, .int .i64 g.fm, .int .i64 g.tt, .int .i64 g.term, .int .i64 g.index, .int .i64 g.logt, .int .i64 g.com, .bool g.yes, .slice u.a u.n u.c, .string g.data] 30)).cell? ⟨w.heap.size, 1, none⟩ = some (.slice V.c.a V.c.n V.c.c) := C1.at_ 1 rfl
  have CM := C2 (grown_refl _ none)
  have m0 : ((w.alloc (.cells #[.int .i64 r.id, .slice V.c.a V.c.n V.c.c, .int .i64 r.term, .int .i64 r.vote, .int .i64 r.role, .int .i64 r.lead, .int .i64 r.b, .int .i64 r.k, .slice V.e.a V.e.n V.e.c, .string r.snap, .int .i64 r.com, .int .i64 r.left, .int .i64 r.wait, .slice V.v.a V.v.n V.v.c, .slice V.n.a V.n.n V.n.c, .slice V.m.a V.m.n V.m.c] 28)).alloc (.cells #[.int .i64 g.kind, .int .i64 g.fm, .int .i64 g.tt, .int .i64 g.term, .int .i64 g.index, .int .i64 g.logt, .int .i64 g.com, .bool g.yes, .slice u.a u.n u.c, .string g.data] 30)).cell? ⟨w.heap.size + 1, 0, none⟩ = some (.int .i64 g.kind) := CM.at_ 0 rfl
  have m1 : ((w.alloc (.cells #[.int .i64 r.id, .slice V.c.a V.c.n V.c.c, .int .i64 r.term, .int .i64 r.vote, .int .i64 r.role, .int .i64 r.lead, .int .i64 r.b, .int .i64 r.k, .slice V.e.a V.e.n V.e.c, .string r.snap, .int .i64 r.com, .int .i64 r.left, .int .i64 r.wait, .slice V.v.a V.v.n V.v.c, .slice V.n.a V.n.n V.n.c, .slice V.m.a V.m.n V.m.c] 28)).alloc (.cells #[.int .i64 g.kind, .int .i64 g.fm, .int .i64 g.tt, .int .i64 g.term, .int .i64 g.index, .int .i64 g.logt, .int .i64 g.com, .bool g.yes, .slice u.a u.n u.c, .string g.data] 30)).cell? ⟨w.heap.size + 1, 1, none⟩ = some (.int .i64 g.fm) := CM.at_ 1 rfl
  have m2 : ((w.alloc (.cells #[.int .i64 r.id, .slice V.c.a V.c.n V.c.c, .int .i64 r.term, .int .i64 r.vote, .int .i64 r.role, .int .i64 r.lead, .int .i64 r.b, .int .i64 r.k, .slice V.e.a V.e.n V.e.c, .string r.snap, .int .i64 r.com, .int .i64 r.left, .int .i64 r.wait, .slice V.v.a V.v.n V.v.c, .slice V.n.a V.n.n V.n.c, .slice V.m.a V.m.n V.m.c] 28)).alloc (.cells #[.int .i64 g.kind, .int .i64 g.fm, .int .i64 g.tt, .int .i64 g.term, .int .i64 g.index, .int .i64 g.logt, .int .i64 g.com, .bool g.yes, .slice u.a u.n u.c, .string g.data] 30)).cell? ⟨w.heap.size + 1, 2, none⟩ = some (.int .i64 g.tt) := CM.at_ 2 rfl
  have m3 : ((w.alloc (.cells #[.int .i64 r.id, .slice V.c.a V.c.n V.c.c, .int .i64 r.term, .int .i64 r.vote, .int .i64 r.role, .int .i64 r.lead, .int .i64 r.b, .int .i64 r.k, .slice V.e.a V.e.n V.e.c, .string r.snap, .int .i64 r.com, .int .i64 r.left, .int .i64 r.wait, .slice V.v.a V.v.n V.v.c, .slice V.n.a V.n.n V.n.c, .slice V.m.a V.m.n V.m.c] 28)).alloc (.cells #[.int .i64 g.kind, .int .i64 g.fm, .int .i64 g.tt, .int .i64 g.term, .int .i64 g.index, .int .i64 g.logt, .int .i64 g.com, .bool g.yes, .slice u.a u.n u.c, .string g.data] 30)).cell? ⟨w.heap.size + 1, 3, none⟩ = some (.int .i64 g.term) := CM.at_ 3 rfl
  have m4 : ((w.alloc (.cells #[.int .i64 r.id, .slice V.c.a V.c.n V.c.c, .int .i64 r.term, .int .i64 r.vote, .int .i64 r.role, .int .i64 r.lead, .int .i64 r.b, .int .i64 r.k, .slice V.e.a V.e.n V.e.c, .string r.snap, .int .i64 r.com, .int .i64 r.left, .int .i64 r.wait, .slice V.v.a V.v.n V.v.c, .slice V.n.a V.n.n V.n.c, .slice V.m.a V.m.n V.m.c] 28)).alloc (.cells #[.int .i64 g.kind, .int .i64 g.fm, .int .i64 g.tt, .int .i64 g.term, .int .i64 g.index, .int .i64 g.logt, .int .i64 g.com, .bool g.yes, .slice u.a u.n u.c, .string g.data] 30)).cell? ⟨w.heap.size + 1, 4, none⟩ = some (.int .i64 g.index) := CM.at_ 4 rfl
  have m5 : ((w.alloc (.cells #[.int .i64 r.id, .slice V.c.a V.c.n V.c.c, .int .i64 r.term, .int .i64 r.vote, .int .i64 r.role, .int .i64 r.lead, .int .i64 r.b, .int .i64 r.k, .slice V.e.a V.e.n V.e.c, .string r.snap, .int .i64 r.com, .int .i64 r.left, .int .i64 r.wait, .slice V.v.a V.v.n V.v.c, .slice V.n.a V.n.n V.n.c, .slice V.m.a V.m.n V.m.c] 28)).alloc (.cells #[.int .i64 g.kind, .int .i64 g.fm, .int .i64 g.tt, .int .i64 g.term, .int .i64 g.index, .int .i64 g.logt, .int .i64 g.com, .bool g.yes, .slice u.a u.n u.c, .string g.data] 30)).cell? ⟨w.heap.size + 1, 5, none⟩ = some (.int .i64 g.logt) := CM.at_ 5 rfl
  have m6 : ((w.alloc (.cells #[.int .i64 r.id, .slice V.c.a V.c.n V.c.c, .int .i64 r.term, .int .i64 r.vote, .int .i64 r.role, .int .i64 r.lead, .int .i64 r.b, .int .i64 r.k, .slice V.e.a V.e.n V.e.c, .string r.snap, .int .i64 r.com, .int .i64 r.left, .int .i64 r.wait, .slice V.v.a V.v.n V.v.c, .slice V.n.a V.n.n V.n.c, .slice V.m.a V.m.n V.m.c] 28)).alloc (.cells #[.int .i64 g.kind, .int .i64 g.fm, .int .i64 g.tt, .int .i64 g.term, .int .i64 g.index, .int .i64 g.logt, .int .i64 g.com, .bool g.yes, .slice u.a u.n u.c, .string g.data] 30)).cell? ⟨w.heap.size + 1, 6, none⟩ = some (.int .i64 g.com) := CM.at_ 6 rfl
  have m7 : ((w.alloc (.cells #[.int .i64 r.id, .slice V.c.a V.c.n V.c.c, .int .i64 r.term, .int .i64 r.vote, .int .i64 r.role, .int .i64 r.lead, .int .i64 r.b, .int .i64 r.k, .slice V.e.a V.e.n V.e.c, .string r.snap, .int .i64 r.com, .int .i64 r.left, .int .i64 r.wait, .slice V.v.a V.v.n V.v.c, .slice V.n.a V.n.n V.n.c, .slice V.m.a V.m.n V.m.c] 28)).alloc (.cells #[.int .i64 g.kind, .int .i64 g.fm, .int .i64 g.tt, .int .i64 g.term, .int .i64 g.index, .int .i64 g.logt, .int .i64 g.com, .bool g.yes, .slice u.a u.n u.c, .string g.data] 30)).cell? ⟨w.heap.size + 1, 7, none⟩ = some (.bool g.yes) := CM.at_ 7 rfl
  have m8 : ((w.alloc (.cells #[.int .i64 r.id, .slice V.c.a V.c.n V.c.c, .int .i64 r.term, .int .i64 r.vote, .int .i64 r.role, .int .i64 r.lead, .int .i64 r.b, .int .i64 r.k, .slice V.e.a V.e.n V.e.c, .string r.snap, .int .i64 r.com, .int .i64 r.left, .int .i64 r.wait, .slice V.v.a V.v.n V.v.c, .slice V.n.a V.n.n V.n.c, .slice V.m.a V.m.n V.m.c] 28)).alloc (.cells #[.int .i64 g.kind, .int .i64 g.fm, .int .i64 g.tt, .int .i64 g.term, .int .i64 g.index, .int .i64 g.logt, .int .i64 g.com, .bool g.yes, .slice u.a u.n u.c, .string g.data] 30)).cell? ⟨w.heap.size + 1, 8, none⟩ = some (.slice u.a u.n u.c) := CM.at_ 8 rfl
  have m9 : ((w.alloc (.cells #[.int .i64 r.id, .slice V.c.a V.c.n V.c.c, .int .i64 r.term, .int .i64 r.vote, .int .i64 r.role, .int .i64 r.lead, .int .i64 r.b, .int .i64 r.k, .slice V.e.a V.e.n V.e.c, .string r.snap, .int .i64 r.com, .int .i64 r.left, .int .i64 r.wait, .slice V.v.a V.v.n V.v.c, .slice V.n.a V.n.n V.n.c, .slice V.m.a V.m.n V.m.c] 28)).alloc (.cells #[.int .i64 g.kind, .int .i64 g.fm, .int .i64 g.tt, .int .i64 g.term, .int .i64 g.index, .int .i64 g.logt, .int .i64 g.com, .bool g.yes, .slice u.a u.n u.c, .string g.data] 30)).cell? ⟨w.heap.size + 1, 9, none⟩ = some (.string g.data) := CM.at_ 9 rfl
  have D9 : Hid (∀ {W : World}, ((w.alloc (.cells #[.int .i64 r.id, .slice V.c.a V.c.n V.c.c, .int .i64 r.term, .int .i64 r.vote, .int .i64 r.role, .int .i64 r.lead, .int .i64 r.b, .int .i64 r.k, .slice V.e.a V.e.n V.e.c, .string r.snap, .int .i64 r.com, .int .i64 r.left, .int .i64 r.wait, .slice V.v.a V.v.n V.v.c, .slice V.n.a V.n.n V.n.c, .slice V.m.a V.m.n V.m.c] 28)).alloc (.cells #[.int .i64 g.kind, .int .i64 g.fm, .int .i64 g.tt, .int .i64 g.term, .int .i64 g.index, .int .i64 g.logt, .int .i64 g.com, .bool g.yes, .slice u.a u.n u.c, .string g.data] 30)).grownBy W none → W.cell? ⟨w.heap.size + 1, 9, none⟩ = some (.string g.data)) := fun {W} gr => (C2 gr).at_ 9 rfl
  have hR : Hid (Rft.takesW r g = (decide (1 ≤ g.kind ∧ g.kind ≤ 5) && (decide (g.tt = r.id) && !decide (g.fm = r.id) && Quo.has r.conf g.fm) && (decide (1 ≤ g.term ∧ g.term ≤ 1099511627776) && decide (0 ≤ g.index ∧ g.index ≤ 1099511627776) && decide (0 ≤ g.logt ∧ g.logt ≤ g.term) && decide (0 ≤ g.com ∧ g.com ≤ 1099511627776)) && (Rft.entsOk g && decide (g.data.size ≤ 60000)))) := rfl
  generalize Rft.takesW r g = R at *
  generalize decide (1 ≤ g.kind ∧ g.kind ≤ 5) = A at *
  generalize Quo.has r.conf g.fm = B at *
  generalize decide (1 ≤ g.term ∧ g.term ≤ 1099511627776) = T1 at *
  generalize decide (0 ≤ g.index ∧ g.index ≤ 1099511627776) = T2 at *
  generalize decide (0 ≤ g.logt ∧ g.logt ≤ g.term) = T3 at *
  generalize decide (0 ≤ g.com ∧ g.com ≤ 1099511627776) = T4 at *
  generalize Rft.entsOk g = E at *
  clear h hm cb C1 CM C2
  cases A with
  | false =>
    have hR' : Hid (R = false) := hR.out.trans (by simp)
    go_enter Try.func14, Try.ntmps14
    go_wp2_with (first | (go_at_call 28; (with_reducible refine (WK.out _).mono ?_); rintro e w1 ⟨rfl, h1⟩; subst h1) | (go_at_call 22; (with_reducible refine (CO.out _ G0.out).mono ?_); rintro e w1 ⟨rfl, h1⟩; subst h1) | (go_at_call 29; (with_reducible refine (W1.out _).mono ?_); rintro e w1 ⟨rfl, h1⟩; subst h1) | (go_at_call 29; (with_reducible refine (W2.out _).mono ?_); rintro e w1 ⟨rfl, h1⟩; subst h1) | (go_at_call 29; (with_reducible refine (W3.out _).mono ?_); rintro e w1 ⟨rfl, h1⟩; subst h1) | (go_at_call 29; (with_reducible refine (W4.out _).mono ?_); rintro e w1 ⟨rfl, h1⟩; subst h1) | (go_at_call 30; (with_reducible refine (TE.out _ G0.out).mono ?_); rintro e w2 ⟨rfl, g2⟩; have d9 := D9.out g2))
    go_ret
    exact ⟨by rw [hR'.out]; rfl, G0.out⟩
  | true =>
  by_cases h1 : ¬ g.tt = r.id
  · have e1 : (g.tt != r.id) = true := by simpa using h1
    have hR' : Hid (R = false) := hR.out.trans (by rw [decide_eq_false h1]; simp)
    go_enter Try.func14, Try.ntmps14
    go_wp2_with (first | (go_at_call 28; (with_reducible refine (WK.out _).mono ?_); rintro e w1 ⟨rfl, h1⟩; subst h1) | (go_at_call 22; (with_reducible refine (CO.out _ G0.out).mono ?_); rintro e w1 ⟨rfl, h1⟩; subst h1) | (go_at_call 29; (with_reducible refine (W1.out _).mono ?_); rintro e w1 ⟨rfl, h1⟩; subst h1) | (go_at_call 29; (with_reducible refine (W2.out _).mono ?_); rintro e w1 ⟨rfl, h1⟩; subst h1) | (go_at_call 29; (with_reducible refine (W3.out _).mono ?_); rintro e w1 ⟨rfl, h1⟩; subst h1) | (go_at_call 29; (with_reducible refine (W4.out _).mono ?_); rintro e w1 ⟨rfl, h1⟩; subst h1) | (go_at_call 30; (with_reducible refine (TE.out _ G0.out).mono ?_); rintro e w2 ⟨rfl, g2⟩; have d9 := D9.out g2))
    go_ret
    exact ⟨by rw [hR'.out]; rfl, G0.out⟩
  replace h1 : g.tt = r.id := Decidable.of_not_not h1
  have e1 : (g.tt != r.id) = false := by simpa using h1
  by_cases h2 : g.fm = r.id
  · have e2 : (g.fm == r.id) = true := by simpa using h2
    have hR' : Hid (R = false) := hR.out.trans (by rw [decide_eq_true h2]; simp)
    clear h1 h2
    go_enter Try.func14, Try.ntmps14
    go_wp2_with (first | (go_at_call 28; (with_reducible refine (WK.out _).mono ?_); rintro e w1 ⟨rfl, h1⟩; subst h1) | (go_at_call 22; (with_reducible refine (CO.out _ G0.out).mono ?_); rintro e w1 ⟨rfl, h1⟩; subst h1) | (go_at_call 29; (with_reducible refine (W1.out _).mono ?_); rintro e w1 ⟨rfl, h1⟩; subst h1) | (go_at_call 29; (with_reducible refine (W2.out _).mono ?_); rintro e w1 ⟨rfl, h1⟩; subst h1) | (go_at_call 29; (with_reducible refine (W3.out _).mono ?_); rintro e w1 ⟨rfl, h1⟩; subst h1) | (go_at_call 29; (with_reducible refine (W4.out _).mono ?_); rintro e w1 ⟨rfl, h1⟩; subst h1) | (go_at_call 30; (with_reducible refine (TE.out _ G0.out).mono ?_); rintro e w2 ⟨rfl, g2⟩; have d9 := D9.out g2))
    go_ret
    exact ⟨by rw [hR'.out]; rfl, G0.out⟩
  have e2 : (g.fm == r.id) = false := by simpa using h2
  have hR : Hid (R = (B && (T1 && T2 && T3 && T4) && (E && decide (g.data.size ≤ 60000)))) := hR.out.trans (by rw [decide_eq_true h1, decide_eq_false h2]; simp)
  clear h1 h2
  cases B with
  | false =>
    have hR' : Hid (R = false) := hR.out.trans (by simp)
    go_enter Try.func14, Try.ntmps14
    go_wp2_with (first | (go_at_call 28; (with_reducible refine (WK.out _).mono ?_); rintro e w1 ⟨rfl, h1⟩; subst h1) | (go_at_call 22; (with_reducible refine (CO.out _ G0.out).mono ?_); rintro e w1 ⟨rfl, h1⟩; subst h1) | (go_at_call 29; (with_reducible refine (W1.out _).mono ?_); rintro e w1 ⟨rfl, h1⟩; subst h1) | (go_at_call 29; (with_reducible refine (W2.out _).mono ?_); rintro e w1 ⟨rfl, h1⟩; subst h1) | (go_at_call 29; (with_reducible refine (W3.out _).mono ?_); rintro e w1 ⟨rfl, h1⟩; subst h1) | (go_at_call 29; (with_reducible refine (W4.out _).mono ?_); rintro e w1 ⟨rfl, h1⟩; subst h1) | (go_at_call 30; (with_reducible refine (TE.out _ G0.out).mono ?_); rintro e w2 ⟨rfl, g2⟩; have d9 := D9.out g2))
    go_ret
    exact ⟨by rw [hR'.out]; rfl, G0.out⟩
  | true =>
  cases T1 with
  | false =>
    have hR' : Hid (R = false) := hR.out.trans (by simp)
    go_enter Try.func14, Try.ntmps14
    go_wp2_with (first | (go_at_call 28; (with_reducible refine (WK.out _).mono ?_); rintro e w1 ⟨rfl, h1⟩; subst h1) | (go_at_call 22; (with_reducible refine (CO.out _ G0.out).mono ?_); rintro e w1 ⟨rfl, h1⟩; subst h1) | (go_at_call 29; (with_reducible refine (W1.out _).mono ?_); rintro e w1 ⟨rfl, h1⟩; subst h1) | (go_at_call 29; (with_reducible refine (W2.out _).mono ?_); rintro e w1 ⟨rfl, h1⟩; subst h1) | (go_at_call 29; (with_reducible refine (W3.out _).mono ?_); rintro e w1 ⟨rfl, h1⟩; subst h1) | (go_at_call 29; (with_reducible refine (W4.out _).mono ?_); rintro e w1 ⟨rfl, h1⟩; subst h1) | (go_at_call 30; (with_reducible refine (TE.out _ G0.out).mono ?_); rintro e w2 ⟨rfl, g2⟩; have d9 := D9.out g2))
    go_ret
    exact ⟨by rw [hR'.out]; rfl, G0.out⟩
  | true =>
  cases T2 with
  | false =>
    have hR' : Hid (R = false) := hR.out.trans (by simp)
    go_enter Try.func14, Try.ntmps14
    go_wp2_with (first | (go_at_call 28; (with_reducible refine (WK.out _).mono ?_); rintro e w1 ⟨rfl, h1⟩; subst h1) | (go_at_call 22; (with_reducible refine (CO.out _ G0.out).mono ?_); rintro e w1 ⟨rfl, h1⟩; subst h1) | (go_at_call 29; (with_reducible refine (W1.out _).mono ?_); rintro e w1 ⟨rfl, h1⟩; subst h1) | (go_at_call 29; (with_reducible refine (W2.out _).mono ?_); rintro e w1 ⟨rfl, h1⟩; subst h1) | (go_at_call 29; (with_reducible refine (W3.out _).mono ?_); rintro e w1 ⟨rfl, h1⟩; subst h1) | (go_at_call 29; (with_reducible refine (W4.out _).mono ?_); rintro e w1 ⟨rfl, h1⟩; subst h1) | (go_at_call 30; (with_reducible refine (TE.out _ G0.out).mono ?_); rintro e w2 ⟨rfl, g2⟩; have d9 := D9.out g2))
    go_ret
    exact ⟨by rw [hR'.out]; rfl, G0.out⟩
  | true =>
  cases T3 with
  | false =>
    have hR' : Hid (R = false) := hR.out.trans (by simp)
    go_enter Try.func14, Try.ntmps14
    go_wp2_with (first | (go_at_call 28; (with_reducible refine (WK.out _).mono ?_); rintro e w1 ⟨rfl, h1⟩; subst h1) | (go_at_call 22; (with_reducible refine (CO.out _ G0.out).mono ?_); rintro e w1 ⟨rfl, h1⟩; subst h1) | (go_at_call 29; (with_reducible refine (W1.out _).mono ?_); rintro e w1 ⟨rfl, h1⟩; subst h1) | (go_at_call 29; (with_reducible refine (W2.out _).mono ?_); rintro e w1 ⟨rfl, h1⟩; subst h1) | (go_at_call 29; (with_reducible refine (W3.out _).mono ?_); rintro e w1 ⟨rfl, h1⟩; subst h1) | (go_at_call 29; (with_reducible refine (W4.out _).mono ?_); rintro e w1 ⟨rfl, h1⟩; subst h1) | (go_at_call 30; (with_reducible refine (TE.out _ G0.out).mono ?_); rintro e w2 ⟨rfl, g2⟩; have d9 := D9.out g2))
    go_ret
    exact ⟨by rw [hR'.out]; rfl, G0.out⟩
  | true =>
  cases T4 with
  | false =>
    have hR' : Hid (R = false) := hR.out.trans (by simp)
    go_enter Try.func14, Try.ntmps14
    go_wp2_with (first | (go_at_call 28; (with_reducible refine (WK.out _).mono ?_); rintro e w1 ⟨rfl, h1⟩; subst h1) | (go_at_call 22; (with_reducible refine (CO.out _ G0.out).mono ?_); rintro e w1 ⟨rfl, h1⟩; subst h1) | (go_at_call 29; (with_reducible refine (W1.out _).mono ?_); rintro e w1 ⟨rfl, h1⟩; subst h1) | (go_at_call 29; (with_reducible refine (W2.out _).mono ?_); rintro e w1 ⟨rfl, h1⟩; subst h1) | (go_at_call 29; (with_reducible refine (W3.out _).mono ?_); rintro e w1 ⟨rfl, h1⟩; subst h1) | (go_at_call 29; (with_reducible refine (W4.out _).mono ?_); rintro e w1 ⟨rfl, h1⟩; subst h1) | (go_at_call 30; (with_reducible refine (TE.out _ G0.out).mono ?_); rintro e w2 ⟨rfl, g2⟩; have d9 := D9.out g2))
    go_ret
    exact ⟨by rw [hR'.out]; rfl, G0.out⟩
  | true =>
  cases E with
  | false =>
    have hR' : Hid (R = false) := hR.out.trans (by simp)
    go_enter Try.func14, Try.ntmps14
    go_wp2_with (first | (go_at_call 28; (with_reducible refine (WK.out _).mono ?_); rintro e w1 ⟨rfl, h1⟩; subst h1) | (go_at_call 22; (with_reducible refine (CO.out _ G0.out).mono ?_); rintro e w1 ⟨rfl, h1⟩; subst h1) | (go_at_call 29; (with_reducible refine (W1.out _).mono ?_); rintro e w1 ⟨rfl, h1⟩; subst h1) | (go_at_call 29; (with_reducible refine (W2.out _).mono ?_); rintro e w1 ⟨rfl, h1⟩; subst h1) | (go_at_call 29; (with_reducible refine (W3.out _).mono ?_); rintro e w1 ⟨rfl, h1⟩; subst h1) | (go_at_call 29; (with_reducible refine (W4.out _).mono ?_); rintro e w1 ⟨rfl, h1⟩; subst h1) | (go_at_call 30; (with_reducible refine (TE.out _ G0.out).mono ?_); rintro e w2 ⟨rfl, g2⟩; have d9 := D9.out g2))
    go_ret
    exact ⟨by rw [hR'.out]; rfl, grown_tr G0.out g2⟩
  | true =>
    have hR' : Hid (R = decide ((g.data.size : Int) ≤ 60000)) := hR.out.trans (by simp only [Bool.true_and]; exact decide_eq_decide.2 (by omega))
    go_enter Try.func14, Try.ntmps14
    go_wp2_with (first | (go_at_call 28; (with_reducible refine (WK.out _).mono ?_); rintro e w1 ⟨rfl, h1⟩; subst h1) | (go_at_call 22; (with_reducible refine (CO.out _ G0.out).mono ?_); rintro e w1 ⟨rfl, h1⟩; subst h1) | (go_at_call 29; (with_reducible refine (W1.out _).mono ?_); rintro e w1 ⟨rfl, h1⟩; subst h1) | (go_at_call 29; (with_reducible refine (W2.out _).mono ?_); rintro e w1 ⟨rfl, h1⟩; subst h1) | (go_at_call 29; (with_reducible refine (W3.out _).mono ?_); rintro e w1 ⟨rfl, h1⟩; subst h1) | (go_at_call 29; (with_reducible refine (W4.out _).mono ?_); rintro e w1 ⟨rfl, h1⟩; subst h1) | (go_at_call 30; (with_reducible refine (TE.out _ G0.out).mono ?_); rintro e w2 ⟨rfl, g2⟩; have d9 := D9.out g2))
    go_ret
    exact ⟨by rw [hR'.out]; rfl, grown_tr G0.out g2⟩
end Go.Proofs.Ytdpcebaggldaiaa
