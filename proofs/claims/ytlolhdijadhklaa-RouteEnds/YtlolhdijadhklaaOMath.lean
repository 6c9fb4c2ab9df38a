/- Ways that begin: what is reckoned. -/
import Derived.Test.YtlolhdijadhklaaOBegin2
import Derived.Test.YtlolhdijadhklaaAFindM
namespace Go.Proofs.Ytlolhdijadhklaa
open Go.RowKit Atl
set_option linter.unusedVariables false

theorem cells_r {w : World} {q : Nat} {r : Wy} (h : w.rangeAt q 0 (rc r)) : w.cell? ⟨q, 0, none⟩ = some (.int .i64 r.n) ∧ w.cell? ⟨q, 1, none⟩ = some (.string r.nm) ∧ w.cell? ⟨q, 2, none⟩ = some (.int .i64 r.m.g) ∧ w.cell? ⟨q, 3, none⟩ = some (.int .i64 r.m.la) ∧ w.cell? ⟨q, 4, none⟩ = some (.slice r.u.a r.u.n r.u.c) ∧ w.cell? ⟨q, 5, none⟩ = some (.int .i64 r.m.p.k) ∧ w.cell? ⟨q, 6, none⟩ = some (.int .i64 r.m.p.ph) ∧ w.cell? ⟨q, 7, none⟩ = some (.int .i64 r.m.p.sh) ∧ w.cell? ⟨q, 8, none⟩ = some (.int .i64 r.m.p.ot) ∧ w.cell? ⟨q, 9, none⟩ = some (.int .i64 r.m.p.gp) ∧ w.cell? ⟨q, 10, none⟩ = some (.int .i64 r.m.p.pa) ∧ w.cell? ⟨q, 11, none⟩ = some (.int .i64 r.m.p.ep) ∧ w.cell? ⟨q, 12, none⟩ = some (.string r.m.p.key) ∧ w.cell? ⟨q, 13, none⟩ = some (.bool r.f) ∧ w.cell? ⟨q, 14, none⟩ = some (.int .i64 r.nd) ∧ w.cell? ⟨q, 15, none⟩ = some (.int .i64 r.lf) ∧ w.cell? ⟨q, 16, none⟩ = some (.bool r.d) ∧ w.cell? ⟨q, 17, none⟩ = some (.int .i64 r.er) ∧ w.cell? ⟨q, 18, none⟩ = some (.int .i64 r.tm) ∧ w.cell? ⟨q, 19, none⟩ = some (.slice r.j.a r.j.n r.j.c) :=
  ⟨h 0 _ rfl, h 1 _ rfl, h 2 _ rfl, h 3 _ rfl, h 4 _ rfl, h 5 _ rfl, h 6 _ rfl, h 7 _ rfl, h 8 _ rfl, h 9 _ rfl, h 10 _ rfl, h 11 _ rfl, h 12 _ rfl, h 13 _ rfl, h 14 _ rfl, h 15 _ rfl, h 16 _ rfl, h 17 _ rfl, h 18 _ rfl, h 19 _ rfl⟩
/-- A new box, with what was stored into it. -/
theorem new_row {w w3 : World} {z : Array Value} {cs : List Value} {t : TypeId} (hl : cs.length = z.size) (h : w3 = (w.alloc (.cells z t)).setCells w.heap.size 0 cs) :
    w.grownBy w3 none ∧ w3.heap.size = w.heap.size + 1 ∧ ∀ W, w3.grownBy W none → Cs W w.heap.size cs := by
  have q0 : Cs w3 w.heap.size cs := by
    rw [h]
    exact (cs_new (grown_refl (w.alloc (.cells z t)) none)).sets cs (by simpa using hl)
  have g : w.grownBy w3 none := by
    rw [h]
    exact grown_more (World.grownBy_alloc _ _ none) (grown_setCells _ _ _ _) (fun k e => .inr (by injection e with e; omega))
  have s3 : w3.heap.size = w.heap.size + 1 := by rw [h, setCells_size]; simp
  exact ⟨g, s3, fun W k => q0.grown k (by omega)⟩
theorem there_new {w : World} {z : Array Value} {t : TypeId} {n : Nat} (h : n = z.size) : (w.alloc (.cells z t)).there w.heap.size 0 n := by
  subst h
  exact (cs_new (grown_refl (w.alloc (.cells z t)) none)).there (by simp)

theorem chk_some {a : Am} (h : chk a = true) : emp a = false := by
  have h1 : 1 ≤ a.g := by
    unfold chk spansB at h
    simp only [Bool.and_eq_true, decide_eq_true_eq] at h
    exact h.1.1.1.1.1.1.1
  unfold emp
  rw [show (a.g == 0) = false by simp; omega]
  rfl
theorem way_yes {n : Int} {nm : ByteArray} {t : Int} {a : Am} {u : S3} (hb : begOk n nm t = true) (hc : chk a = true) : way (yesW n nm t a u) = true := by
  unfold begOk wit at hb
  simp only [Bool.and_eq_true, decide_eq_true_eq] at hb
  obtain ⟨⟨h1, h2⟩, ⟨h3, h4⟩, h5⟩ := hb
  unfold way rchk rnum rmap goes wit yesW
  rw [hc, chk_some hc, h5]
  simp
  omega
theorem whr_yes {n : Int} {nm : ByteArray} {t : Int} {a : Am} {u : S3} (hb : begOk n nm t = true) (hc : chk a = true) : whr (yesW n nm t a u) = ((findS a nm).gr, 1, (findS a nm).sh, (findS a nm).ep) := by
  unfold whr
  rw [way_yes hb hc, if_neg (by simp)]
  rfl
/-- Begin, whatever it is asked: where it tells no error and the map is right, the way knows the map. -/
theorem begin_all (n : Int) (nm : ByteArray) (a : Am) (u : S3) (t : Int) (w : World) (h : Rat w a u) (hz : Szm a) (hk : nm.size ≤ 140737488351232) : Calls Try.prog 36 #[.int .i64 n, .string nm, av a u, .int .i64 t] w fun e w' => ∃ (r : Wy) (er : Int), e = .returned (.tuple #[rv r, .int .i64 er]) ∧ w.grownBy w' none ∧ (er = 0 → chk a = true → ∃ u', r = yesW n nm t a u' ∧ begOk n nm t = true ∧ Rat w' a u' ∧ ∀ k, (Value.slice u'.a u'.n u'.c).ownBlock = some k → w.heap.size ≤ k) := by
  cases hb : begOk n nm t with
  | false =>
    refine (begin_bad n nm a u t w hk hb).mono ?_
    rintro e w' ⟨rfl, g⟩
    exact ⟨zW, 1, rfl, g, fun h => absurd h (by decide)⟩
  | true =>
    cases hc : chk a with
    | false =>
      refine (begin_no n nm a u t w h hz hk hb hc).mono ?_
      rintro e w' ⟨rfl, g⟩
      exact ⟨noW n nm t, 0, rfl, g, fun _ h => by cases h⟩
    | true =>
      refine (begin_yes n nm a u t w h hz hk hb hc).mono ?_
      rintro e w' ⟨u', rfl, r, g, b⟩
      exact ⟨yesW n nm t a u', 0, rfl, g, fun _ _ => ⟨u', rfl, rfl, r, b⟩⟩
end Go.Proofs.Ytlolhdijadhklaa
