/- What is handed in stays: the statement's walk. -/
import Derived.Test.YtdpcebaggldaiaaGAwake
import Derived.Test.YtdpcebaggldaiaaMe
import Derived.Test.YtdpcebaggldaiaaRCopy
import Derived.Test.YtdpcebaggldaiaaRSame
import Derived.Test.YtdpcebaggldaiaaMd
import Derived.Test.YtdpcebaggldaiaaGTop3
namespace Go.Proofs.Ytdpcebaggldaiaa
open Go.RowKit Trl
open Rft (Nd Mg)
set_option linter.unusedVariables false
set_option maxRecDepth 10000

theorem i64_of {x : Int} (h : (Lit.int .i64 x).wf = true) : -9223372036854775808 ≤ x ∧ x ≤ 9223372036854775807 := by
  have := bounds_i64 h
  omega
theorem node_msg {w W : World} {r : Nd} {V : Sv} {g : Mg} {u : S3} (gr : ((w.alloc (.cells #[.int .i64 r.id, .slice V.c.a V.c.n V.c.c, .int .i64 r.term, .int .i64 r.vote, .int .i64 r.role, .int .i64 r.lead, .int .i64 r.b, .int .i64 r.k, .slice V.e.a V.e.n V.e.c, .string r.snap, .int .i64 r.com, .int .i64 r.left, .int .i64 r.wait, .slice V.v.a V.v.n V.v.c, .slice V.n.a V.n.n V.n.c, .slice V.m.a V.m.n V.m.c] 28)).alloc (.cells #[.int .i64 g.kind, .int .i64 g.fm, .int .i64 g.tt, .int .i64 g.term, .int .i64 g.index, .int .i64 g.logt, .int .i64 g.com, .bool g.yes, .slice u.a u.n u.c, .string g.data] 30)).grownBy W none) : Rb W w.heap.size (nc r V) ∧ Rb W (w.heap.size + 1) (mc (g, u)) ∧ w.grownBy W none := by
  have g1 := World.grownBy_alloc (w.alloc (.cells #[.int .i64 r.id, .slice V.c.a V.c.n V.c.c, .int .i64 r.term, .int .i64 r.vote, .int .i64 r.role, .int .i64 r.lead, .int .i64 r.b, .int .i64 r.k, .slice V.e.a V.e.n V.e.c, .string r.snap, .int .i64 r.com, .int .i64 r.left, .int .i64 r.wait, .slice V.v.a V.v.n V.v.c, .slice V.n.a V.n.n V.n.c, .slice V.m.a V.m.n V.m.c] 28)) (.cells #[.int .i64 g.kind, .int .i64 g.fm, .int .i64 g.tt, .int .i64 g.term, .int .i64 g.index, .int .i64 g.logt, .int .i64 g.com, .bool g.yes, .slice u.a u.n u.c, .string g.data] 30) none
  have e : (w.alloc (.cells #[.int .i64 r.id, .slice V.c.a V.c.n V.c.c, .int .i64 r.term, .int .i64 r.vote, .int .i64 r.role, .int .i64 r.lead, .int .i64 r.b, .int .i64 r.k, .slice V.e.a V.e.n V.e.c, .string r.snap, .int .i64 r.com, .int .i64 r.left, .int .i64 r.wait, .slice V.v.a V.v.n V.v.c, .slice V.n.a V.n.n V.n.c, .slice V.m.a V.m.n V.m.c] 28)).heap.size = w.heap.size + 1 := by simp
  have h2 := box_msg (x := (g, u)) gr
  rw [e] at h2
  exact ⟨(box_node (grown_tr g1 gr)).1.rb, h2.rb, (box_node (grown_tr g1 gr)).2⟩
/-- What is there ahead of the first call: the node that was, the node that is lent, its spare room. -/
structure Lent (w W : World) (r : Nd) (g : Mg) (u : S3) (q7 q8 gF N : Nat) (V7 V8 : Sv) : Prop where
  m : Rb W (w.heap.size + 1) (mc (g, u))
  md : Rdm W g u
  was : Rb W q7 (nc r V7)
  wasd : Rdn W r V7
  lent : Rb W q8 (nc r V8)
  lentd : Rdn W r V8
  x : W.cell? ⟨gF, N * 2, none⟩ = some (.int .i64 (-7))
  y : W.cell? ⟨gF, (N + 1) * 2, none⟩ = some (.int .i64 (-7))
  g : w.grownBy W none
theorem Lent.grown {w W W' : World} {r : Nd} {g : Mg} {u : S3} {q7 q8 gF N : Nat} {V7 V8 : Sv} (h : Lent w W r g u q7 q8 gF N V7 V8) (k : W.grownBy W' none) : Lent w W' r g u q7 q8 gF N V7 V8 :=
  ⟨h.m.grown k, h.md.grown k, h.was.grown k, h.wasd.grown k, h.lent.grown k, h.lentd.grown k, k.cell h.x (by simp), k.cell h.y (by simp), grown_tr h.g k⟩
/-- The spare room while it is filled. -/
def fillE (l : List En) (N j : Nat) : List En := l.take j ++ List.replicate (N + 2 - j) (0, ⟨#[]⟩)
theorem fillE_len {l : List En} {N j : Nat} (hl : l.length = N) (hj : j ≤ N) : (fillE l N j).length = N + 2 := by
  unfold fillE
  rw [List.length_append, List.length_take, List.length_replicate]
  omega
theorem fillE_set {l : List En} {N j : Nat} {e : En} (hl : l.length = N) (hj : j < N) (he : l[j]? = some e) : (fillE l N j).set j e = fillE l N (j + 1) := by
  unfold fillE
  rw [List.set_append_right _ _ (by rw [List.length_take]; omega), List.length_take, show j - min j l.length = 0 by omega]
  have e1 : N + 2 - j = (N + 2 - (j + 1)) + 1 := by omega
  rw [e1, List.replicate_succ, List.set_cons_zero, List.take_add_one, he]
  simp
namespace raftKeeps
set_option maxRecDepth 100000 in
set_option maxHeartbeats 12800000 in
theorem walk (w : World) (va : Value) (o0 : ∃ (n : Nd) (V : Sv), va = nv n V ∧ Rdn w n V) (vb : Value) (o1 : ∃ (g : Mg) (u : S3), vb = mv g u ∧ Rdm w g u) (d : Int) (wd : (Lit.int .i64 d).wf = true) :
    Calls Try.prog 3 #[va, vb, .int .i64 d] w fun e w' => e = .returned (.bool true) ∧ Below w.heap.size w w' := by
  obtain ⟨r, V, rfl, hr⟩ := o0
  obtain ⟨g, u, rfl, hm⟩ := o1
  obtain ⟨hd1, hd2⟩ := i64_of wd
  clear wd
  have AW : Hid (∀ W, _) := awake_any
  have CP : Hid (∀ W, w.grownBy W none → _) := fun W gr => Copy_any r V W (hr.grown gr)
  have BX : Hid (∀ {W : World}, ((w.alloc (.cells #[.int .i64 r.id, .slice V.c.a V.c.n V.c.c, .int .i64 r.term, .int .i64 r.vote, .int .i64 r.role, .int .i64 r.lead, .int .i64 r.b, .int .i64 r.k, .slice V.e.a V.e.n V.e.c, .string r.snap, .int .i64 r.com, .int .i64 r.left, .int .i64 r.wait, .slice V.v.a V.v.n V.v.c, .slice V.n.a V.n.n V.n.c, .slice V.m.a V.m.n V.m.c] 28)).alloc (.cells #[.int .i64 g.kind, .int .i64 g.fm, .int .i64 g.tt, .int .i64 g.term, .int .i64 g.index, .int .i64 g.logt, .int .i64 g.com, .bool g.yes, .slice u.a u.n u.c, .string g.data] 30)).grownBy W none → Rb W w.heap.size (nc r V) ∧ Rb W (w.heap.size + 1) (mc (g, u)) ∧ w.grownBy W none) := fun {W} gr => node_msg gr
  have HR : Hid (Rdn w r V) := hr
  have HM : Hid (Rdm w g u) := hm
  have LN : Hid (Lens r) := hr.lens
  have hN := hr.el
  have hNb := hr.eb
  rw [← hN] at hNb
  have HN : Hid (V.e.n = r.l.length) := hN
  clear hr hm hN
  go_enter Try.func3, Try.ntmps3
  go_upto_region 3 with (go_at_call 5; (with_reducible refine (AW.out _).mono ?_); rintro e w1 ⟨rfl, g1⟩)
  obtain ⟨R1, M1, G1⟩ := BX.out g1
  have RR1 := R1.1
  have C1 := CP.out w1 G1
  have HR1 : Hid (Rb w1 w.heap.size (nc r V)) := R1
  have HM1 : Hid (Rb w1 (w.heap.size + 1) (mc (g, u))) := M1
  have HG1 : Hid (w.grownBy w1 none) := G1
  clear BX AW g1 R1 M1 G1
  go_upto_region 4 with (first
    | (refine load_row (ty := 28) w.heap.size 0 (nc r V) _ rfl RR1 Try.underlying28 rfl (by kernel_rfl) ?_)
    | (go_at_call 6; (with_reducible refine C1.mono ?_); rintro e w2 ⟨V7, T7, rfl, o7, g2⟩))
  have B7 : Rb (w2.alloc (.cells #[.int .i64 r.id, .slice V7.c.a V7.c.n V7.c.c, .int .i64 r.term, .int .i64 r.vote, .int .i64 r.role, .int .i64 r.lead, .int .i64 r.b, .int .i64 r.k, .slice V7.e.a V7.e.n V7.e.c, .string r.snap, .int .i64 r.com, .int .i64 r.left, .int .i64 r.wait, .slice V7.v.a V7.v.n V7.v.c, .slice V7.n.a V7.n.n V7.n.c, .slice V7.m.a V7.m.n V7.m.c] 28)) w2.heap.size (nc r V7) := (box_node (grown_refl _ none)).1.rb
  have D7 : Rdn (w2.alloc (.cells #[.int .i64 r.id, .slice V7.c.a V7.c.n V7.c.c, .int .i64 r.term, .int .i64 r.vote, .int .i64 r.role, .int .i64 r.lead, .int .i64 r.b, .int .i64 r.k, .slice V7.e.a V7.e.n V7.e.c, .string r.snap, .int .i64 r.com, .int .i64 r.left, .int .i64 r.wait, .slice V7.v.a V7.v.n V7.v.c, .slice V7.n.a V7.n.n V7.n.c, .slice V7.m.a V7.m.n V7.m.c] 28)) r V7 := (o7.rdn LN.out).grown (World.grownBy_alloc w2 _ none)
  have G3 : w1.grownBy (w2.alloc (.cells #[.int .i64 r.id, .slice V7.c.a V7.c.n V7.c.c, .int .i64 r.term, .int .i64 r.vote, .int .i64 r.role, .int .i64 r.lead, .int .i64 r.b, .int .i64 r.k, .slice V7.e.a V7.e.n V7.e.c, .string r.snap, .int .i64 r.com, .int .i64 r.left, .int .i64 r.wait, .slice V7.v.a V7.v.n V7.v.c, .slice V7.n.a V7.n.n V7.n.c, .slice V7.m.a V7.m.n V7.m.c] 28)) none := grown_alloc g2 _
  generalize w2.alloc (.cells #[.int .i64 r.id, .slice V7.c.a V7.c.n V7.c.c, .int .i64 r.term, .int .i64 r.vote, .int .i64 r.role, .int .i64 r.lead, .int .i64 r.b, .int .i64 r.k, .slice V7.e.a V7.e.n V7.e.c, .string r.snap, .int .i64 r.com, .int .i64 r.left, .int .i64 r.wait, .slice V7.v.a V7.v.n V7.v.c, .slice V7.n.a V7.n.n V7.n.c, .slice V7.m.a V7.m.n V7.m.c] 28) = w3 at *
  generalize w2.heap.size = q7 at *
  have HB7 : Hid (Rb w3 q7 (nc r V7)) := B7
  have HD7 : Hid (Rdn w3 r V7) := D7
  have HR3 : Hid (Rb w3 w.heap.size (nc r V)) := HR1.out.grown G3
  have HM3 : Hid (Rb w3 (w.heap.size + 1) (mc (g, u))) := HM1.out.grown G3
  have HG3 : Hid (w.grownBy w3 none) := grown_tr HG1.out G3
  have RR3 := HR3.out.1
  have C3 := CP.out w3 HG3.out
  have hq3 : w.heap.size + 1 < w3.heap.size := HM3.out.2.2
  have hq73 : q7 < w3.heap.size := HB7.out.2.2
  clear B7 D7 G3 C1 RR1 HR1 HM1 HG1 g2 o7
  go_upto_region 5 with (first
    | (refine load_row (ty := 28) w.heap.size 0 (nc r V) _ rfl RR3 Try.underlying28 rfl (by kernel_rfl) ?_)
    | (go_at_call 6; (with_reducible refine C3.mono ?_); rintro e w4 ⟨V8, T8, rfl, o8, g4⟩))
  have B8 : Rb (w4.alloc (.cells #[.int .i64 r.id, .slice V8.c.a V8.c.n V8.c.c, .int .i64 r.term, .int .i64 r.vote, .int .i64 r.role, .int .i64 r.lead, .int .i64 r.b, .int .i64 r.k, .slice V8.e.a V8.e.n V8.e.c, .string r.snap, .int .i64 r.com, .int .i64 r.left, .int .i64 r.wait, .slice V8.v.a V8.v.n V8.v.c, .slice V8.n.a V8.n.n V8.n.c, .slice V8.m.a V8.m.n V8.m.c] 28)) w4.heap.size (nc r V8) := (box_node (grown_refl _ none)).1.rb
  have D8 : Rdn (w4.alloc (.cells #[.int .i64 r.id, .slice V8.c.a V8.c.n V8.c.c, .int .i64 r.term, .int .i64 r.vote, .int .i64 r.role, .int .i64 r.lead, .int .i64 r.b, .int .i64 r.k, .slice V8.e.a V8.e.n V8.e.c, .string r.snap, .int .i64 r.com, .int .i64 r.left, .int .i64 r.wait, .slice V8.v.a V8.v.n V8.v.c, .slice V8.n.a V8.n.n V8.n.c, .slice V8.m.a V8.m.n V8.m.c] 28)) r V8 := (o8.rdn LN.out).grown (World.grownBy_alloc w4 _ none)
  have G5 : w3.grownBy (w4.alloc (.cells #[.int .i64 r.id, .slice V8.c.a V8.c.n V8.c.c, .int .i64 r.term, .int .i64 r.vote, .int .i64 r.role, .int .i64 r.lead, .int .i64 r.b, .int .i64 r.k, .slice V8.e.a V8.e.n V8.e.c, .string r.snap, .int .i64 r.com, .int .i64 r.left, .int .i64 r.wait, .slice V8.v.a V8.v.n V8.v.c, .slice V8.n.a V8.n.n V8.n.c, .slice V8.m.a V8.m.n V8.m.c] 28)) none := grown_alloc g4 _
  have G45 : w4.grownBy (w4.alloc (.cells #[.int .i64 r.id, .slice V8.c.a V8.c.n V8.c.c, .int .i64 r.term, .int .i64 r.vote, .int .i64 r.role, .int .i64 r.lead, .int .i64 r.b, .int .i64 r.k, .slice V8.e.a V8.e.n V8.e.c, .string r.snap, .int .i64 r.com, .int .i64 r.left, .int .i64 r.wait, .slice V8.v.a V8.v.n V8.v.c, .slice V8.n.a V8.n.n V8.n.c, .slice V8.m.a V8.m.n V8.m.c] 28)) none := World.grownBy_alloc w4 _ none
  have D84 : Hid (Rdn w4 r V8) := o8.rdn LN.out
  have hq48 : w3.heap.size ≤ w4.heap.size := g4.size
  generalize w4.alloc (.cells #[.int .i64 r.id, .slice V8.c.a V8.c.n V8.c.c, .int .i64 r.term, .int .i64 r.vote, .int .i64 r.role, .int .i64 r.lead, .int .i64 r.b, .int .i64 r.k, .slice V8.e.a V8.e.n V8.e.c, .string r.snap, .int .i64 r.com, .int .i64 r.left, .int .i64 r.wait, .slice V8.v.a V8.v.n V8.v.c, .slice V8.n.a V8.n.n V8.n.c, .slice V8.m.a V8.m.n V8.m.c] 28) = w5 at *
  have HG45 : Hid (w4.grownBy w5 none) := G45
  generalize hq8 : w4.heap.size = q8 at *
  have HQ4 : Hid (w4.heap.size = q8) := hq8
  clear hq8 G45
  have HB8 : Hid (Rb w5 q8 (nc r V8)) := B8
  have HD8 : Hid (Rdn w5 r V8) := D8
  have HB75 : Hid (Rb w5 q7 (nc r V7)) := HB7.out.grown G5
  have HD75 : Hid (Rdn w5 r V7) := HD7.out.grown G5
  have HR5 : Hid (Rb w5 w.heap.size (nc r V)) := HR3.out.grown G5
  have HM5 : Hid (Rb w5 (w.heap.size + 1) (mc (g, u))) := HM3.out.grown G5
  have HG5 : Hid (w.grownBy w5 none) := grown_tr HG3.out G5
  have HG35 : Hid (w3.grownBy w5 none) := G5
  clear B8 D8 G5 C3 RR3 HR3 HG3 g4 o8 CP
  obtain ⟨N, hNN⟩ : ∃ N, V.e.n = N := ⟨_, rfl⟩
  have HNN : Hid (r.l.length = N) := by rw [← HN.out]; exact hNN
  have HVN : Hid (V.e.n = N) := hNN
  rw [hNN] at hNb
  obtain ⟨wm, hmk0, hOF, hGF⟩ := make_e (N + 2) (by omega) w5
  have hmk : (Instr.makeSlice 23 (.int .i64 ((N : Int) + 2)) (.int .i64 ((N : Int) + 2))).run Try.prog w5 = .ok (.slice (some ⟨w5.heap.size, 0, none⟩) (N + 2) (N + 2)) wm := hmk0
  have c8 : w5.cell? ⟨w.heap.size, 8, none⟩ = some (.slice V.e.a N V.e.c) := by rw [← hNN]; exact HR5.out.at_ 8 rfl
  have HOF : Hid (eE.Own wm w5.heap.size (.slice (some ⟨w5.heap.size, 0, none⟩) (N + 2) (N + 2)) (fillE r.l N 0)) := hOF
  have HGF : Hid (w5.grownBy wm none) := hGF
  have hS : Hid (Sl w (.slice V.e.a N V.e.c) r.l) := by rw [← hNN]; exact HR.out.e
  clear hNN hOF hGF HN hmk0
  go_upto_region 6 with fail
  generalize hgF : w5.heap.size = gF at *
  clear hmk c8
  go_wp2_with fail
  go_loopw [10] (fun t10 wr => ∃ j : Nat, j ≤ N ∧ t10 = .int .i64 (j : Int) ∧ Hid (eE.Own wr gF (.slice (some ⟨gF, 0, none⟩) (N + 2) (N + 2)) (fillE r.l N j)) ∧ Hid (w5.grownBy wr none)) (fun t10 _ => N - (intOf t10).toNat)
  case atStart => exact ⟨0, by omega, rfl, HOF, HGF⟩
  case round =>
  obtain ⟨j, hj, rfl, O, G⟩ := hrel
  by_cases hlt : j < N
  · obtain ⟨e, he⟩ : ∃ e, r.l[j]? = some e := ⟨_, List.getElem?_eq_getElem (by rw [HNN.out]; exact hlt)⟩
    obtain ⟨ge, oe, ea, x0, x1⟩ := at_e (hS.out.grown (grown_tr HG5.out G.out)) he
    have c8 : wr.cell? ⟨w.heap.size, 8, none⟩ = some (.slice V.e.a N V.e.c) := by rw [← HVN.out]; exact (HR5.out.grown G.out).at_ 8 rfl
    rw [ea] at c8
    have hfl := fillE_len HNN.out (Nat.le_of_lt hlt)
    have O1 := O.out
    rw [← hfl] at O1
    obtain ⟨u0, u1, k0, k1, fz, bg, lg, OS, _⟩ := eE_own_entry O1 (i := j) (by rw [hfl]; omega) e
    rw [hfl, fillE_set HNN.out hlt he] at OS
    have f0 := fz (j * 2)
    have f1 := fz (j * 2 + 1)
    have HOS : Hid (eE.Own ((wr.setCell ⟨gF, j * 2, none⟩ (.int .i64 e.1)).setCell ⟨gF, j * 2 + 1, none⟩ (.string e.2)) gF (.slice (some ⟨gF, 0, none⟩) (N + 2) (N + 2)) (fillE r.l N (j + 1))) := OS
    have HGS : Hid (w5.grownBy ((wr.setCell ⟨gF, j * 2, none⟩ (.int .i64 e.1)).setCell ⟨gF, j * 2 + 1, none⟩ (.string e.2)) none) := grown_more (grown_more G.out (grown_set wr ⟨gF, j * 2, none⟩ (.int .i64 e.1)) (fun k e => .inr (by injection e with e; simp at e; omega))) (grown_set _ ⟨gF, j * 2 + 1, none⟩ (.string e.2)) (fun k e => .inr (by injection e with e; simp at e; omega))
    clear O1 OS fz hfl ea
    go_wp2_with fail
    go_roundw
    case rel => exact ⟨j + 1, by omega, by go_num, HOS, HGS⟩
    case measure => simp [intOf]; omega
  have ej : N = j := by omega
  subst ej
  have hfl := fillE_len (l := r.l) HNN.out (Nat.le_refl N)
  have O1 := O.out
  rw [← hfl] at O1
  obtain ⟨u0, _, k0, _, fz, bg, lg, _, ST⟩ := eE_own_entry O1 (i := N) (by rw [hfl]; omega) (0, ⟨#[]⟩)
  obtain ⟨l1, hl1, hk1, O2⟩ := ST (-7)
  rw [← hl1] at O2
  obtain ⟨u2, _, k2, _, fz2, _, _, _, ST2⟩ := eE_own_entry O2 (i := N + 1) (by rw [hl1, hfl]; omega) (0, ⟨#[]⟩)
  obtain ⟨l2, hl2, hk2, O3⟩ := ST2 (-7)
  have hlen : l1.length = N + 2 := hl1.trans hfl
  rw [hlen] at O3
  have hl2N : l2.length = N + 2 := hl2.trans hlen
  have htk : l2.take N = r.l := by
    apply List.ext_getElem?
    intro i
    by_cases hi : i < N
    · rw [List.getElem?_take_of_lt hi, hk2 i (by omega), hk1 i (by omega)]
      unfold fillE
      rw [List.getElem?_append_left (by rw [List.length_take, HNN.out]; omega), List.getElem?_take_of_lt hi]
    · rw [List.getElem?_eq_none (by rw [List.length_take]; omega), List.getElem?_eq_none (by rw [HNN.out]; omega)]
  obtain ⟨a6, c6, run6, _⟩ := Sl.upto (Sl.own O3) (k := N) (by omega)
  have f0 := fz (N * 2)
  have f2 := fz2 ((N + 1) * 2)
  have hx6 : ((wr.setCell ⟨gF, N * 2, none⟩ (.int .i64 (-7))).setCell ⟨gF, (N + 1) * 2, none⟩ (.int .i64 (-7))).cell? ⟨gF, N * 2, none⟩ = some (.int .i64 (-7)) := by
    rw [set_other (by simp)]
    exact set_same k0
  have hy6 : ((wr.setCell ⟨gF, N * 2, none⟩ (.int .i64 (-7))).setCell ⟨gF, (N + 1) * 2, none⟩ (.int .i64 (-7))).cell? ⟨gF, (N + 1) * 2, none⟩ = some (.int .i64 (-7)) := set_same k2
  have G6 : w5.grownBy ((wr.setCell ⟨gF, N * 2, none⟩ (.int .i64 (-7))).setCell ⟨gF, (N + 1) * 2, none⟩ (.int .i64 (-7))) none := grown_more (grown_more G.out (grown_set wr ⟨gF, N * 2, none⟩ (.int .i64 (-7))) (fun k e => .inr (by injection e with e; simp at e; omega))) (grown_set _ ⟨gF, (N + 1) * 2, none⟩ (.int .i64 (-7))) (fun k e => .inr (by injection e with e; simp at e; omega))
  have HX6 : Hid (_ ∧ _) := And.intro hx6 hy6
  have c8 : wr.cell? ⟨w.heap.size, 8, none⟩ = some (.slice V.e.a N V.e.c) := by rw [← HVN.out]; exact (HR5.out.grown G.out).at_ 8 rfl
  have w7 : IntKind.i64.wrap ((N : Int) + 2 - 2) = (N : Int) := by rw [IntKind.wrap_i64]; omega
  have w8 : IntKind.i64.wrap ((N : Int) + 2 - 1) = (N : Int) + 1 := by rw [IntKind.wrap_i64]; omega
  have HO3 : Hid (eE.Own ((wr.setCell ⟨gF, N * 2, none⟩ (.int .i64 (-7))).setCell ⟨gF, (N + 1) * 2, none⟩ (.int .i64 (-7))) gF (.slice (some ⟨gF, 0, none⟩) (N + 2) (N + 2)) l2) := O3
  have HG6 : Hid (w5.grownBy ((wr.setCell ⟨gF, N * 2, none⟩ (.int .i64 (-7))).setCell ⟨gF, (N + 1) * 2, none⟩ (.int .i64 (-7))) none) := G6
  have HTK : Hid (l2.take N = r.l ∧ l2.length = N + 2) := ⟨htk, hl2N⟩
  clear O1 O2 O3 ST ST2 fz fz2 hk1 hk2 hl1 hl2 htk hl2N hlen hfl hx6 hy6 G6 O
  go_upto_region 12 with fail
  generalize (wr.setCell ⟨gF, N * 2, none⟩ (.int .i64 (-7))).setCell ⟨gF, (N + 1) * 2, none⟩ (.int .i64 (-7)) = w6 at *
  have B86 := HB8.out.grown HG6.out
  have y8 := B86.at_ 8 rfl
  have z8 := (B86.2.1 8 (by simp)).2
  have HB86 : Hid (Rb w6 q8 (nc r V8)) := B86
  have hqF : q8 < gF := by have := HB8.out.2.2; omega
  clear B86 k0 k2 f0 f2 c8
  go_upto_region 13 with fail
  have HL0 : Lent w (w6.setCell ⟨q8, 8, none⟩ (.slice a6 N c6)) r g u q7 q8 gF N V7 { V8 with e := ⟨a6, N, c6⟩ } := by
    have C7 : Chg (fun k => k = q8) w6 (w6.setCell ⟨q8, 8, none⟩ (.slice a6 N c6)) := chg_setb (Chg.refl _ w6) q8 8 _ rfl
    have gs := grown_set w6 ⟨q8, 8, none⟩ (.slice a6 N c6)
    have g37 : w3.grownBy (w6.setCell ⟨q8, 8, none⟩ (.slice a6 N c6)) none := grown_more (grown_tr HG35.out HG6.out) gs (fun k e => .inr (by injection e with e; simp at e; omega))
    have g47 : w4.grownBy (w6.setCell ⟨q8, 8, none⟩ (.slice a6 N c6)) none := grown_more (grown_tr HG45.out HG6.out) gs (fun k e => .inr (by injection e with e; have := HQ4.out; simp at e; omega))
    have g07 : w.grownBy (w6.setCell ⟨q8, 8, none⟩ (.slice a6 N c6)) none := grown_more (grown_tr HG5.out HG6.out) gs (fun k e => .inr (by injection e with e; simp at e; omega))
    have O7 := HO3.out.kept C7 (fun k hk e => by injection hk with hk; have hk' : gF = k := hk; omega)
    obtain ⟨a2, c2, run2, S2⟩ := Sl.upto (Sl.own O7) (k := N) (by have := HTK.out.2; omega)
    have er := (run6 w6).symm.trans (run2 w6)
    injection er with er _
    injection er with er1 _ er2
    subst er1 er2
    rw [HTK.out.1] at S2
    have D8 := D84.out.grown g47
    exact ⟨HM3.out.grown g37, HM.out.grown g07, HB7.out.grown g37, HD7.out.grown g37, Rb.set HB86.out 8 _, ⟨D8.c, S2, D8.v, D8.n, D8.m, D8.cl, HNN.out.symm, D8.vl, D8.nl, D8.ml, D8.cb, D8.eb, D8.vb, D8.nb, D8.mb, D8.vc⟩, by rw [set_other (by simp)]; exact HX6.out.1, by rw [set_other (by simp)]; exact HX6.out.2, g07⟩
  have HL : Hid (Lent w (w6.setCell ⟨q8, 8, none⟩ (.slice a6 N c6)) r g u q7 q8 gF N V7 { V8 with e := ⟨a6, N, c6⟩ }) := HL0
  clear HL0 run6 y8 z8 HB86 HX6 HO3 HG6 HTK HG5 HG35 HG45 HQ4 D84 HB7 HD7 HM3 HB8 HD8 HB75 HD75 HR5 HM5 hq3 hq73 HR HM HVN hS HNN hqF G bg lg u0 u2 HOF HGF
  generalize w6.setCell ⟨q8, 8, none⟩ (.slice a6 N c6) = w7 at *
  generalize ({ V8 with e := ⟨a6, N, c6⟩ } : Sv) = V9 at *
  as_aux_lemma =>
  have hok1 := hand_lens_any LN.out g
  have LN1 : Hid (Lens (Rft.handN r g)) := hok1
  have LN2 : Hid (Lens (Rft.tickN r d)) := tick_lens LN.out d
  have TE : Hid (∀ x ∈ Rft.tickL r d, x.es.length ≤ 8) := tick_es r d
  have HA : Hid (∀ W, w7.grownBy W none → _) := fun W gr => Handle_any r V9 g u W (HL.out.lentd.grown gr) (HL.out.md.grown gr)
  have TA : Hid (∀ W, w7.grownBy W none → _) := fun W gr => Tick_any r V9 d W (HL.out.lentd.grown gr) hd1 hd2
  clear hok1
  generalize Rft.handN r g = r1 at *
  generalize Rft.handL r g = L1 at *
  generalize Rft.tickN r d = r2 at *
  generalize Rft.tickL r d = L2 at *
  have RL := HL.out.lent.1
  have RMg := HL.out.m.1
  have H1 := HA.out w7 (grown_refl _ none)
  go_upto_region 14 with (first
    | (refine load_row (ty := 28) q8 0 (nc r V9) _ rfl RL Try.underlying28 rfl (by kernel_rfl) ?_)
    | (refine load_row (ty := 30) (w.heap.size + 1) 0 (mc (g, u)) _ rfl RMg Try.underlying30 rfl (by kernel_rfl) ?_)
    | (go_at_call 7; (with_reducible refine H1.mono ?_); rintro e w8 ⟨V11, s12, X12, T11, rfl, o11, l12, m12, hL12, g8⟩))
  have AA : Aa w7.heap.size w8.heap.size (w8.alloc (.cells #[.int .i64 r1.id, .slice V11.c.a V11.c.n V11.c.c, .int .i64 r1.term, .int .i64 r1.vote, .int .i64 r1.role, .int .i64 r1.lead, .int .i64 r1.b, .int .i64 r1.k, .slice V11.e.a V11.e.n V11.e.c, .string r1.snap, .int .i64 r1.com, .int .i64 r1.left, .int .i64 r1.wait, .slice V11.v.a V11.v.n V11.v.c, .slice V11.n.a V11.n.n V11.n.c, .slice V11.m.a V11.m.n V11.m.c] 28)) r1 V11 s12 X12 := Aa.of o11 l12 m12 rfl (World.grownBy_alloc w8 _ none) (box_node (grown_refl _ none)).1.rb
  have e9 : (w8.alloc (.cells #[.int .i64 r1.id, .slice V11.c.a V11.c.n V11.c.c, .int .i64 r1.term, .int .i64 r1.vote, .int .i64 r1.role, .int .i64 r1.lead, .int .i64 r1.b, .int .i64 r1.k, .slice V11.e.a V11.e.n V11.e.c, .string r1.snap, .int .i64 r1.com, .int .i64 r1.left, .int .i64 r1.wait, .slice V11.v.a V11.v.n V11.v.c, .slice V11.n.a V11.n.n V11.n.c, .slice V11.m.a V11.m.n V11.m.c] 28)).heap.size = w8.heap.size + 1 := by simp
  have HG9 : Hid (w7.grownBy (w8.alloc (.cells #[.int .i64 r1.id, .slice V11.c.a V11.c.n V11.c.c, .int .i64 r1.term, .int .i64 r1.vote, .int .i64 r1.role, .int .i64 r1.lead, .int .i64 r1.b, .int .i64 r1.k, .slice V11.e.a V11.e.n V11.e.c, .string r1.snap, .int .i64 r1.com, .int .i64 r1.left, .int .i64 r1.wait, .slice V11.v.a V11.v.n V11.v.c, .slice V11.n.a V11.n.n V11.n.c, .slice V11.m.a V11.m.n V11.m.c] 28)) none) := grown_alloc g8 _
  have HAA : Hid (Aa w7.heap.size w8.heap.size (w8.alloc (.cells #[.int .i64 r1.id, .slice V11.c.a V11.c.n V11.c.c, .int .i64 r1.term, .int .i64 r1.vote, .int .i64 r1.role, .int .i64 r1.lead, .int .i64 r1.b, .int .i64 r1.k, .slice V11.e.a V11.e.n V11.e.c, .string r1.snap, .int .i64 r1.com, .int .i64 r1.left, .int .i64 r1.wait, .slice V11.v.a V11.v.n V11.v.c, .slice V11.n.a V11.n.n V11.n.c, .slice V11.m.a V11.m.n V11.m.c] 28)) r1 V11 s12 X12) := AA
  have HE9 : Hid ((w8.alloc (.cells #[.int .i64 r1.id, .slice V11.c.a V11.c.n V11.c.c, .int .i64 r1.term, .int .i64 r1.vote, .int .i64 r1.role, .int .i64 r1.lead, .int .i64 r1.b, .int .i64 r1.k, .slice V11.e.a V11.e.n V11.e.c, .string r1.snap, .int .i64 r1.com, .int .i64 r1.left, .int .i64 r1.wait, .slice V11.v.a V11.v.n V11.v.c, .slice V11.n.a V11.n.n V11.n.c, .slice V11.m.a V11.m.n V11.m.c] 28)).heap.size = w8.heap.size + 1) := e9
  have HS78 : Hid (w7.heap.size ≤ w8.heap.size) := g8.size
  have hs12 : s12.n = X12.length := l12.len
  have LV : Hid (V11.n.n ≤ 9223372036854775807 ∧ V11.e.n * 24 ≤ 140737488351232 ∧ V11.c.n * 8 ≤ 140737488351232) := ⟨by rw [Row.len o11.n]; have := LN1.out.n; omega, by rw [Row.len o11.e]; exact LN1.out.e, by rw [Row.len o11.c]; exact LN1.out.c⟩
  have LX : Hid (s12.n ≤ 9223372036854775807) := Nat.le_trans (Row.cap (T := fun _ => 0) (i := 0) (.inl ⟨l12, fun _ _ => rfl⟩)).1 (Row.cap (T := fun _ => 0) (i := 0) (.inl ⟨l12, fun _ _ => rfl⟩)).2
  have HS12 : Hid (s12.n = X12.length) := hs12
  clear AA e9 o11 l12 m12 hL12 g8 H1 RL RMg hs12
  generalize w8.alloc (.cells #[.int .i64 r1.id, .slice V11.c.a V11.c.n V11.c.c, .int .i64 r1.term, .int .i64 r1.vote, .int .i64 r1.role, .int .i64 r1.lead, .int .i64 r1.b, .int .i64 r1.k, .slice V11.e.a V11.e.n V11.e.c, .string r1.snap, .int .i64 r1.com, .int .i64 r1.left, .int .i64 r1.wait, .slice V11.v.a V11.v.n V11.v.c, .slice V11.n.a V11.n.n V11.n.c, .slice V11.m.a V11.m.n V11.m.c] 28) = w9 at *
  generalize w8.heap.size = q11 at *
  have RL := (HL.out.lent.grown HG9.out).1
  have T1 := TA.out w9 HG9.out
  go_upto_region 15 with (first
    | (refine load_row (ty := 28) q8 0 (nc r V9) _ rfl RL Try.underlying28 rfl (by kernel_rfl) ?_)
    | (go_at_call 8; (with_reducible refine T1.mono ?_); rintro e w10 ⟨V13, s14, X14, T13, rfl, o13, l14, m14, hL14, g10⟩))
  have G11 : w9.grownBy (w10.alloc (.cells #[.int .i64 r2.id, .slice V13.c.a V13.c.n V13.c.c, .int .i64 r2.term, .int .i64 r2.vote, .int .i64 r2.role, .int .i64 r2.lead, .int .i64 r2.b, .int .i64 r2.k, .slice V13.e.a V13.e.n V13.e.c, .string r2.snap, .int .i64 r2.com, .int .i64 r2.left, .int .i64 r2.wait, .slice V13.v.a V13.v.n V13.v.c, .slice V13.n.a V13.n.n V13.n.c, .slice V13.m.a V13.m.n V13.m.c] 28)) none := grown_alloc g10 _
  have ga := World.grownBy_alloc w10 (.cells #[.int .i64 r2.id, .slice V13.c.a V13.c.n V13.c.c, .int .i64 r2.term, .int .i64 r2.vote, .int .i64 r2.role, .int .i64 r2.lead, .int .i64 r2.b, .int .i64 r2.k, .slice V13.e.a V13.e.n V13.e.c, .string r2.snap, .int .i64 r2.com, .int .i64 r2.left, .int .i64 r2.wait, .slice V13.v.a V13.v.n V13.v.c, .slice V13.n.a V13.n.n V13.n.c, .slice V13.m.a V13.m.n V13.m.c] 28) none
  have B13 : Rb (w10.alloc (.cells #[.int .i64 r2.id, .slice V13.c.a V13.c.n V13.c.c, .int .i64 r2.term, .int .i64 r2.vote, .int .i64 r2.role, .int .i64 r2.lead, .int .i64 r2.b, .int .i64 r2.k, .slice V13.e.a V13.e.n V13.e.c, .string r2.snap, .int .i64 r2.com, .int .i64 r2.left, .int .i64 r2.wait, .slice V13.v.a V13.v.n V13.v.c, .slice V13.n.a V13.n.n V13.n.c, .slice V13.m.a V13.m.n V13.m.c] 28)) w10.heap.size (nc r2 V13) := (box_node (grown_refl _ none)).1.rb
  have HB13 : Hid (Rb (w10.alloc (.cells #[.int .i64 r2.id, .slice V13.c.a V13.c.n V13.c.c, .int .i64 r2.term, .int .i64 r2.vote, .int .i64 r2.role, .int .i64 r2.lead, .int .i64 r2.b, .int .i64 r2.k, .slice V13.e.a V13.e.n V13.e.c, .string r2.snap, .int .i64 r2.com, .int .i64 r2.left, .int .i64 r2.wait, .slice V13.v.a V13.v.n V13.v.c, .slice V13.n.a V13.n.n V13.n.c, .slice V13.m.a V13.m.n V13.m.c] 28)) w10.heap.size (nc r2 V13) ∧ Own5 (w10.alloc (.cells #[.int .i64 r2.id, .slice V13.c.a V13.c.n V13.c.c, .int .i64 r2.term, .int .i64 r2.vote, .int .i64 r2.role, .int .i64 r2.lead, .int .i64 r2.b, .int .i64 r2.k, .slice V13.e.a V13.e.n V13.e.c, .string r2.snap, .int .i64 r2.com, .int .i64 r2.left, .int .i64 r2.wait, .slice V13.v.a V13.v.n V13.v.c, .slice V13.n.a V13.n.n V13.n.c, .slice V13.m.a V13.m.n V13.m.c] 28)) w9.heap.size r2 V13 T13 ∧ eM.Own (w10.alloc (.cells #[.int .i64 r2.id, .slice V13.c.a V13.c.n V13.c.c, .int .i64 r2.term, .int .i64 r2.vote, .int .i64 r2.role, .int .i64 r2.lead, .int .i64 r2.b, .int .i64 r2.k, .slice V13.e.a V13.e.n V13.e.c, .string r2.snap, .int .i64 r2.com, .int .i64 r2.left, .int .i64 r2.wait, .slice V13.v.a V13.v.n V13.v.c, .slice V13.n.a V13.n.n V13.n.c, .slice V13.m.a V13.m.n V13.m.c] 28)) w9.heap.size (.slice s14.a s14.n s14.c) X14 ∧ (∀ x ∈ X14, Row eE (w10.alloc (.cells #[.int .i64 r2.id, .slice V13.c.a V13.c.n V13.c.c, .int .i64 r2.term, .int .i64 r2.vote, .int .i64 r2.role, .int .i64 r2.lead, .int .i64 r2.b, .int .i64 r2.k, .slice V13.e.a V13.e.n V13.e.c, .string r2.snap, .int .i64 r2.com, .int .i64 r2.left, .int .i64 r2.wait, .slice V13.v.a V13.v.n V13.v.c, .slice V13.n.a V13.n.n V13.n.c, .slice V13.m.a V13.m.n V13.m.c] 28)) w9.heap.size T13 1 x.2.v x.1.es) ∧ X14.map (·.1) = L2 ∧ w9.heap.size ≤ w10.heap.size) := ⟨B13, o13.grown ga, l14.grown ga, fun x hx => Row.grown (m14 x hx) ga, hL14, g10.size⟩
  have HG11 : Hid (w9.grownBy (w10.alloc (.cells #[.int .i64 r2.id, .slice V13.c.a V13.c.n V13.c.c, .int .i64 r2.term, .int .i64 r2.vote, .int .i64 r2.role, .int .i64 r2.lead, .int .i64 r2.b, .int .i64 r2.k, .slice V13.e.a V13.e.n V13.e.c, .string r2.snap, .int .i64 r2.com, .int .i64 r2.left, .int .i64 r2.wait, .slice V13.v.a V13.v.n V13.v.c, .slice V13.n.a V13.n.n V13.n.c, .slice V13.m.a V13.m.n V13.m.c] 28)) none) := G11
  clear B13 o13 l14 m14 hL14 g10 ga T1 RL G11
  generalize w10.alloc (.cells #[.int .i64 r2.id, .slice V13.c.a V13.c.n V13.c.c, .int .i64 r2.term, .int .i64 r2.vote, .int .i64 r2.role, .int .i64 r2.lead, .int .i64 r2.b, .int .i64 r2.k, .slice V13.e.a V13.e.n V13.e.c, .string r2.snap, .int .i64 r2.com, .int .i64 r2.left, .int .i64 r2.wait, .slice V13.v.a V13.v.n V13.v.c, .slice V13.n.a V13.n.n V13.n.c, .slice V13.m.a V13.m.n V13.m.c] 28) = w11 at *
  generalize w10.heap.size = q13 at *
  have G711 : w7.grownBy w11 none := grown_tr HG9.out HG11.out
  have RL := (HL.out.lent.grown G711).1
  have RMg := (HL.out.m.grown G711).1
  have H1 := HA.out w11 G711
  clear G711
  go_upto_region 16 with (first
    | (refine load_row (ty := 28) q8 0 (nc r V9) _ rfl RL Try.underlying28 rfl (by kernel_rfl) ?_)
    | (refine load_row (ty := 30) (w.heap.size + 1) 0 (mc (g, u)) _ rfl RMg Try.underlying30 rfl (by kernel_rfl) ?_)
    | (go_at_call 7; (with_reducible refine H1.mono ?_); rintro e w12 ⟨V15, s16, X16, T15, rfl, o15, l16, m16, hL16, g12⟩))
  have G13 : w11.grownBy (w12.alloc (.cells #[.int .i64 r1.id, .slice V15.c.a V15.c.n V15.c.c, .int .i64 r1.term, .int .i64 r1.vote, .int .i64 r1.role, .int .i64 r1.lead, .int .i64 r1.b, .int .i64 r1.k, .slice V15.e.a V15.e.n V15.e.c, .string r1.snap, .int .i64 r1.com, .int .i64 r1.left, .int .i64 r1.wait, .slice V15.v.a V15.v.n V15.v.c, .slice V15.n.a V15.n.n V15.n.c, .slice V15.m.a V15.m.n V15.m.c] 28)) none := grown_alloc g12 _
  have BK : Bk (w12.alloc (.cells #[.int .i64 r1.id, .slice V15.c.a V15.c.n V15.c.c, .int .i64 r1.term, .int .i64 r1.vote, .int .i64 r1.role, .int .i64 r1.lead, .int .i64 r1.b, .int .i64 r1.k, .slice V15.e.a V15.e.n V15.e.c, .string r1.snap, .int .i64 r1.com, .int .i64 r1.left, .int .i64 r1.wait, .slice V15.v.a V15.v.n V15.v.c, .slice V15.n.a V15.n.n V15.n.c, .slice V15.m.a V15.m.n V15.m.c] 28)) w9.heap.size r1 r2 L2 q13 w12.heap.size V13 V15 s14 X14 := by
    obtain ⟨b1, b2, b3, b4, b5, b6⟩ := HB13.out
    have z1 := HG11.out.size
    have z2 := g12.size
    exact ⟨b1.grown G13, ⟨T13, b2.grown G13⟩, (box_node (grown_refl _ none)).1.rb, ⟨T15, (o15.grown (World.grownBy_alloc w12 _ none)).low z1⟩, b3.grown G13, ⟨T13, fun x hx => Row.grown (b4 x hx) G13⟩, b5, b6, by omega⟩
  have HBK : Hid (Bk (w12.alloc (.cells #[.int .i64 r1.id, .slice V15.c.a V15.c.n V15.c.c, .int .i64 r1.term, .int .i64 r1.vote, .int .i64 r1.role, .int .i64 r1.lead, .int .i64 r1.b, .int .i64 r1.k, .slice V15.e.a V15.e.n V15.e.c, .string r1.snap, .int .i64 r1.com, .int .i64 r1.left, .int .i64 r1.wait, .slice V15.v.a V15.v.n V15.v.c, .slice V15.n.a V15.n.n V15.n.c, .slice V15.m.a V15.m.n V15.m.c] 28)) w9.heap.size r1 r2 L2 q13 w12.heap.size V13 V15 s14 X14) := BK
  have HA13 : Hid (Aa w7.heap.size q11 (w12.alloc (.cells #[.int .i64 r1.id, .slice V15.c.a V15.c.n V15.c.c, .int .i64 r1.term, .int .i64 r1.vote, .int .i64 r1.role, .int .i64 r1.lead, .int .i64 r1.b, .int .i64 r1.k, .slice V15.e.a V15.e.n V15.e.c, .string r1.snap, .int .i64 r1.com, .int .i64 r1.left, .int .i64 r1.wait, .slice V15.v.a V15.v.n V15.v.c, .slice V15.n.a V15.n.n V15.n.c, .slice V15.m.a V15.m.n V15.m.c] 28)) r1 V11 s12 X12) := HAA.out.grown (grown_tr HG11.out G13)
  have HG13 : Hid (w7.grownBy (w12.alloc (.cells #[.int .i64 r1.id, .slice V15.c.a V15.c.n V15.c.c, .int .i64 r1.term, .int .i64 r1.vote, .int .i64 r1.role, .int .i64 r1.lead, .int .i64 r1.b, .int .i64 r1.k, .slice V15.e.a V15.e.n V15.e.c, .string r1.snap, .int .i64 r1.com, .int .i64 r1.left, .int .i64 r1.wait, .slice V15.v.a V15.v.n V15.v.c, .slice V15.n.a V15.n.n V15.n.c, .slice V15.m.a V15.m.n V15.m.c] 28)) none) := grown_tr HG9.out (grown_tr HG11.out G13)
  clear BK HAA HB13 HG11 G13 g12 H1 RL RMg o15 l16 m16 hL16 HG9
  generalize w12.alloc (.cells #[.int .i64 r1.id, .slice V15.c.a V15.c.n V15.c.c, .int .i64 r1.term, .int .i64 r1.vote, .int .i64 r1.role, .int .i64 r1.lead, .int .i64 r1.b, .int .i64 r1.k, .slice V15.e.a V15.e.n V15.e.c, .string r1.snap, .int .i64 r1.com, .int .i64 r1.left, .int .i64 r1.wait, .slice V15.v.a V15.v.n V15.v.c, .slice V15.n.a V15.n.n V15.n.c, .slice V15.m.a V15.m.n V15.m.c] 28) = w13 at *
  generalize w12.heap.size = q15 at *
  as_aux_lemma =>
  have HB9 : Hid (w9.heap.size = q11 + 1) := HE9.out
  generalize w9.heap.size = B at *
  generalize hS7 : w7.heap.size = S at *
  have HS7 : Hid (w7.heap.size = S) := hS7
  clear hS7 HE9
  obtain ⟨lv1, lv2, lv3⟩ := LV.out
  have lx := LX.out
  clear LV LX hgF hj hlt
  go_wp2_with fail
  go_loopw [17] (fun t17 wr => ∃ j : Nat, j ≤ V11.e.n ∧ t17 = .int .i64 (j : Int) ∧ Hid (Aa S q11 wr r1 V11 s12 X12) ∧ Hid (Chg (fun k => S ≤ k ∧ k < q11 + 1) w13 wr)) (fun t17 _ => V11.e.n - (intOf t17).toNat)
  case atStart => exact ⟨0, by omega, rfl, HA13, Chg.refl _ _⟩
  case round =>
  obtain ⟨j, hj, rfl, A, C⟩ := hrel
  have c8 : wr.cell? ⟨q11, 8, none⟩ = some (.slice V11.e.a V11.e.n V11.e.c) := A.out.bx.at_ 8 rfl
  by_cases hlt : j < V11.e.n
  · as_aux_lemma =>
    obtain ⟨g1, cc, v0, e1, k0, f0, A2, C2⟩ := A.out.term A.out.e hlt
    injection e1 with e1 _ _
    rw [e1] at c8
    have HA2 : Hid (Aa S q11 (wr.setCell ⟨g1, j * 2, none⟩ (.int .i64 (-9))) r1 V11 s12 X12) := A2
    have HC2 : Hid (Chg (fun k => S ≤ k ∧ k < q11 + 1) w13 (wr.setCell ⟨g1, j * 2, none⟩ (.int .i64 (-9)))) := C.out.trans C2 (fun _ h => .inl h)
    clear A2 C2 e1
    go_wp2_with fail
    go_roundw
    case rel => exact ⟨j + 1, by omega, by go_num, HA2, HC2⟩
    case measure => simp [intOf]; omega
  go_wp2_with fail
  have A1 := A
  have C1 := C
  clear A C c8 hlt hj
  rename World => wy1
  go_loopw [18] (fun t18 wr => ∃ j : Nat, j ≤ V11.n.n ∧ t18 = .int .i64 (j : Int) ∧ Hid (Aa S q11 wr r1 V11 s12 X12) ∧ Hid (Chg (fun k => S ≤ k ∧ k < q11 + 1) w13 wr)) (fun t18 _ => V11.n.n - (intOf t18).toNat)
  case atStart => exact ⟨0, by omega, rfl, A1, C1⟩
  case round =>
  obtain ⟨j, hj, rfl, A, C⟩ := hrel
  clear A1 C1
  have c14 : wr.cell? ⟨q11, 14, none⟩ = some (.slice V11.n.a V11.n.n V11.n.c) := A.out.bx.at_ 14 rfl
  by_cases hlt : j < V11.n.n
  · as_aux_lemma =>
    obtain ⟨g1, v0, e1, k0, f0, A2, C2⟩ := A.out.next hlt lv1
    rw [e1] at c14
    have HA2 : Hid (Aa S q11 (wr.setCell ⟨g1, j, none⟩ (.int .i64 (-9))) r1 V11 s12 X12) := A2
    have HC2 : Hid (Chg (fun k => S ≤ k ∧ k < q11 + 1) w13 (wr.setCell ⟨g1, j, none⟩ (.int .i64 (-9)))) := C.out.trans C2 (fun _ h => .inl h)
    clear A2 C2 e1
    go_wp2_with fail
    go_roundw
    case rel => exact ⟨j + 1, by omega, by go_num, HA2, HC2⟩
    case measure => simp [intOf]; omega
  go_wp2_with fail
  have A1 := A
  have C1 := C
  clear A C c14 hlt hj
  rename World => wy2
  go_loopw [19, 20] (fun t19 _ wr => ∃ j : Nat, j ≤ s12.n ∧ t19 = .int .i64 (j : Int) ∧ Hid (Aa S q11 wr r1 V11 s12 X12) ∧ Hid (Chg (fun k => S ≤ k ∧ k < q11 + 1) w13 wr)) (fun t19 _ _ => s12.n - (intOf t19).toNat)
  case atStart => exact ⟨0, by omega, rfl, A1, C1⟩
  case round =>
  obtain ⟨j, hj, rfl, A, C⟩ := hrel
  clear A1 C1
  by_cases hlt : j < s12.n
  · as_aux_lemma =>
    obtain ⟨y, hy⟩ : ∃ y, X12[j]? = some y := ⟨_, List.getElem?_eq_getElem (by rw [← HS12.out]; exact hlt)⟩
    obtain ⟨gx, cx, ex, _, _⟩ := A.out.x.at_ hy
    injection ex with ex1 _ _
    have HEX : Hid (s12.a = some ⟨gx, 0, none⟩) := ex1
    have HCL : Hid (∀ W, Aa S q11 W r1 V11 s12 X12 → W.cell? ⟨gx, j * 10 + 8, none⟩ = some (.slice y.2.a y.2.n y.2.c)) := fun W h => by
      obtain ⟨gx', cx', ex', hc', _⟩ := h.x.at_ hy
      injection ex' with ex' _ _
      have e2 := HEX.out.symm.trans ex'
      injection e2 with e2
      injection e2 with e2
      subst e2
      exact hc' 8 _ rfl
    have HRY : Hid (∀ W, Aa S q11 W r1 V11 s12 X12 → Rq eE W S q11 (.slice y.2.a y.2.n y.2.c) y.2.n) := fun W h => h.m y (List.mem_of_getElem? hy)
    have hy8 : y.2.n ≤ 9223372036854775807 := (HRY.out _ A.out).max
    rw [ex1]
    clear ex1 hy
    go_wp2_with fail
    rename World => wy3
    go_loopw [20] (fun t20 wr => ∃ k : Nat, k ≤ y.2.n ∧ t20 = .int .i64 (k : Int) ∧ Hid (Aa S q11 wr r1 V11 s12 X12) ∧ Hid (Chg (fun k => S ≤ k ∧ k < q11 + 1) w13 wr)) (fun t20 _ => y.2.n - (intOf t20).toNat)
    case atStart => exact ⟨0, by omega, rfl, A, C⟩
    case round =>
    obtain ⟨k, hk, rfl, A2, C2⟩ := hrel
    have c8 := HCL.out wr A2.out
    by_cases hkl : k < y.2.n
    · obtain ⟨g1, cc, v0, e1, k0, f0, A3, C3⟩ := A2.out.term (HRY.out wr A2.out) hkl
      injection e1 with e1 _ _
      rw [e1] at c8
      have HA3 : Hid (Aa S q11 (wr.setCell ⟨g1, k * 2, none⟩ (.int .i64 (-9))) r1 V11 s12 X12) := A3
      have HC3 : Hid (Chg (fun k => S ≤ k ∧ k < q11 + 1) w13 (wr.setCell ⟨g1, k * 2, none⟩ (.int .i64 (-9)))) := C2.out.trans C3 (fun _ h => .inl h)
      clear A3 C3 e1
      go_wp2_with fail
      go_roundw
      case rel => exact ⟨k + 1, by omega, by go_num, HA3, HC3⟩
      case measure => simp [intOf]; omega
    · go_wp2_with fail
      go_roundw
      case rel => exact ⟨j + 1, by omega, by go_num, A2, C2⟩
      case measure => simp [intOf]; omega
  have A1 := A
  have C1 := C
  clear A C hj
  rename World => wf
  have RE : Rq eE (wf.alloc (.cells #[.int .i64 (-9), .string ⟨#[]⟩] 34)) S q11 (.slice V11.e.a V11.e.n V11.e.c) V11.e.n := A1.out.e.grown (World.grownBy_alloc wf _ none)
  have RX : eE.Rx (wf.alloc (.cells #[.int .i64 (-9), .string ⟨#[]⟩] 34)) (.slice (some ⟨wf.heap.size, 0, none⟩) 1 1) [(-9, ⟨#[]⟩)] := one_e wf (-9, ⟨#[]⟩)
  have SZ1 : Hid (S ≤ wf.heap.size) := by have := HS7.out; have := HG13.out.size; have := C1.out.size; show S ≤ _; omega
  have hSa : S ≤ (wf.alloc (.cells #[.int .i64 (-9), .string ⟨#[]⟩] 34)).heap.size := by have := SZ1.out; simp; omega
  have c8 : wf.cell? ⟨q11, 8, none⟩ = some (.slice V11.e.a V11.e.n V11.e.c) := A1.out.bx.at_ 8 rfl
  have hqw : q11 < wf.heap.size := A1.out.bx.2.2
  have KP : Hid (∀ w20, Chg (fun k => (∃ l, eE.Own (wf.alloc (.cells #[.int .i64 (-9), .string ⟨#[]⟩] 34)) S (.slice V11.e.a V11.e.n V11.e.c) l) ∧ (Value.slice V11.e.a V11.e.n V11.e.c).ownBlock = some k ∧ S ≤ k ∧ k < q11) (wf.alloc (.cells #[.int .i64 (-9), .string ⟨#[]⟩] 34)) w20 → Rb w20 q11 (nc r1 V11) ∧ Rq eK w20 S q11 (.slice V11.c.a V11.c.n V11.c.c) V11.c.n ∧ Chg (fun k => S ≤ k ∧ k < q11 + 1) w13 w20) := fun w20 hC => by
    have A2 := A1.out.grown (World.grownBy_alloc wf (.cells #[.int .i64 (-9), .string ⟨#[]⟩] 34) none)
    refine ⟨A2.bx.kept hC (fun h => by have := h.2.2.2; omega), A2.c.kept hC (fun l o2 k hk _ _ h => by obtain ⟨⟨lo, o⟩, eb, _⟩ := h; exact own_other el_ek o o2 eb hk), ?_⟩
    exact (C1.out.grown (World.grownBy_alloc wf _ none) (by simp)).trans hC (fun k h => .inl ⟨h.2.2.1, by have := h.2.2.2; omega⟩)
  clear A1 C1
  go_upto_region 32 with (refine Rq.wp_app (E := eE) RE hSa ⟨wf.heap.size, 0, none⟩ (-9, ⟨#[]⟩) RX (by omega) (by simp [eE]; omega) nsc_e rfl (.tmp 142) (.tmp 144) rfl rfl rfl ?_; intro ad20 m20 c20 w20 hC20; obtain ⟨b20, rc20, cc20⟩ := KP.out w20 hC20; have z8 := b20.at_ 8 rfl; have y8 := (b20.2.1 8 (by simp)).2)
  have C21 : Chg (fun k => k = q11) w20 (w20.setCell ⟨q11, 8, none⟩ (.slice ad20 m20 c20)) := chg_setb (Chg.refl _ w20) q11 8 _ rfl
  have B21 := Rb.set b20 8 (.slice ad20 m20 c20)
  have HB21 : Hid (Rb (w20.setCell ⟨q11, 8, none⟩ (.slice ad20 m20 c20)) q11 ((nc r1 V11).set 8 (.slice ad20 m20 c20))) := B21
  have HR21 : Hid (Rq eK (w20.setCell ⟨q11, 8, none⟩ (.slice ad20 m20 c20)) S q11 (.slice V11.c.a V11.c.n V11.c.c) V11.c.n) := rc20.kept C21 (fun l o2 k hk _ h e => by omega)
  have HC21 : Hid (Chg (fun k => S ≤ k ∧ k < q11 + 1) w13 (w20.setCell ⟨q11, 8, none⟩ (.slice ad20 m20 c20))) := cc20.trans C21 (fun k e => .inl ⟨by have := HS78.out; omega, by omega⟩)
  clear RE RX hSa c8 KP hC20 b20 rc20 cc20 z8 y8 C21 B21 hqw
  generalize w20.setCell ⟨q11, 8, none⟩ (.slice ad20 m20 c20) = w21 at *
  have RE : Rq eK (w21.alloc (.cells #[.int .i64 (-9)] 3)) S q11 (.slice V11.c.a V11.c.n V11.c.c) V11.c.n := HR21.out.grown (World.grownBy_alloc w21 _ none)
  have RX : eK.Rx (w21.alloc (.cells #[.int .i64 (-9)] 3)) (.slice (some ⟨w21.heap.size, 0, none⟩) 1 1) [-9] := Elm.rx_one (E := eK) fun j x hx => new_at w21 rfl (by rw [← hx]; simp [eK])
  have hSa : S ≤ (w21.alloc (.cells #[.int .i64 (-9)] 3)).heap.size := by have := HS7.out; have := HG13.out.size; have := HC21.out.size; simp; omega
  have c1 : w21.cell? ⟨q11, 1, none⟩ = some (.slice V11.c.a V11.c.n V11.c.c) := HB21.out.at_ 1 rfl
  have hqw : q11 < w21.heap.size := HB21.out.2.2
  have KP : Hid (∀ w22, Chg (fun k => (∃ l, eK.Own (w21.alloc (.cells #[.int .i64 (-9)] 3)) S (.slice V11.c.a V11.c.n V11.c.c) l) ∧ (Value.slice V11.c.a V11.c.n V11.c.c).ownBlock = some k ∧ S ≤ k ∧ k < q11) (w21.alloc (.cells #[.int .i64 (-9)] 3)) w22 → Rb w22 q11 ((nc r1 V11).set 8 (.slice ad20 m20 c20)) ∧ Chg (fun k => S ≤ k ∧ k < q11 + 1) w13 w22) := fun w22 hC => by
    have b2 := HB21.out.grown (World.grownBy_alloc w21 (.cells #[.int .i64 (-9)] 3) none)
    exact ⟨b2.kept hC (fun h => by have := h.2.2.2; omega), (HC21.out.grown (World.grownBy_alloc w21 _ none) (by simp)).trans hC (fun k h => .inl ⟨h.2.2.1, by have := h.2.2.2; omega⟩)⟩
  go_upto_region 33 with (refine Rq.wp_app (E := eK) RE hSa ⟨w21.heap.size, 0, none⟩ (-9) RX (by omega) (by simp [eK]; omega) nsc_k rfl (.tmp 149) (.tmp 150) rfl rfl rfl ?_; intro ad22 m22 c22 w22 hC22; obtain ⟨b22, cc22⟩ := KP.out w22 hC22; have z1 := b22.at_ 1 rfl; have y1 := (b22.2.1 1 (by simp)).2)
  have C23 : Chg (fun k => k = q11) w22 (w22.setCell ⟨q11, 1, none⟩ (.slice ad22 m22 c22)) := chg_setb (Chg.refl _ w22) q11 1 _ rfl
  have HC23 : Hid (Chg (fun k => S ≤ k ∧ k < q11 + 1) w13 (w22.setCell ⟨q11, 1, none⟩ (.slice ad22 m22 c22))) := cc22.trans C23 (fun k e => .inl ⟨by have := HS78.out; omega, by omega⟩)
  clear RE RX hSa c1 KP hC22 b22 cc22 z1 y1 C23 HB21 HR21 HC21 hqw
  generalize w22.setCell ⟨q11, 1, none⟩ (.slice ad22 m22 c22) = w23 at *
  as_aux_lemma =>
  have HG23 : Hid (w7.grownBy w23 none) := Chg.none (Chg.trans (F := fun _ => False) (Chg.of HG13.out (by simp)) HC23.out (fun k hk => .inr (by have := HS7.out; omega)))
  have HBK23 : Hid (Bk w23 B r1 r2 L2 q13 q15 V13 V15 s14 X14) := HBK.out.kept HC23.out (fun k hk h => by have := HB9.out; omega)
  clear HC23 HBK HG13
  have RL := (HL.out.lent.grown HG23.out).1
  have RMg := (HL.out.m.grown HG23.out).1
  have H1 := HA.out w23 HG23.out
  go_upto_region 34 with (first
    | (refine load_row (ty := 28) q8 0 (nc r V9) _ rfl RL Try.underlying28 rfl (by kernel_rfl) ?_)
    | (refine load_row (ty := 30) (w.heap.size + 1) 0 (mc (g, u)) _ rfl RMg Try.underlying30 rfl (by kernel_rfl) ?_)
    | (go_at_call 7; (with_reducible refine H1.mono ?_); rintro e w24 ⟨V21, s22, X22, T21, rfl, o21, l22, m22, hL22, g24⟩))
  have G25 : w23.grownBy (w24.alloc (.cells #[.int .i64 r1.id, .slice V21.c.a V21.c.n V21.c.c, .int .i64 r1.term, .int .i64 r1.vote, .int .i64 r1.role, .int .i64 r1.lead, .int .i64 r1.b, .int .i64 r1.k, .slice V21.e.a V21.e.n V21.e.c, .string r1.snap, .int .i64 r1.com, .int .i64 r1.left, .int .i64 r1.wait, .slice V21.v.a V21.v.n V21.v.c, .slice V21.n.a V21.n.n V21.n.c, .slice V21.m.a V21.m.n V21.m.c] 28)) none := grown_alloc g24 _
  have HB25 : Hid (Rb (w24.alloc (.cells #[.int .i64 r1.id, .slice V21.c.a V21.c.n V21.c.c, .int .i64 r1.term, .int .i64 r1.vote, .int .i64 r1.role, .int .i64 r1.lead, .int .i64 r1.b, .int .i64 r1.k, .slice V21.e.a V21.e.n V21.e.c, .string r1.snap, .int .i64 r1.com, .int .i64 r1.left, .int .i64 r1.wait, .slice V21.v.a V21.v.n V21.v.c, .slice V21.n.a V21.n.n V21.n.c, .slice V21.m.a V21.m.n V21.m.c] 28)) w24.heap.size (nc r1 V21) ∧ Rdn (w24.alloc (.cells #[.int .i64 r1.id, .slice V21.c.a V21.c.n V21.c.c, .int .i64 r1.term, .int .i64 r1.vote, .int .i64 r1.role, .int .i64 r1.lead, .int .i64 r1.b, .int .i64 r1.k, .slice V21.e.a V21.e.n V21.e.c, .string r1.snap, .int .i64 r1.com, .int .i64 r1.left, .int .i64 r1.wait, .slice V21.v.a V21.v.n V21.v.c, .slice V21.n.a V21.n.n V21.n.c, .slice V21.m.a V21.m.n V21.m.c] 28)) r1 V21) := ⟨(box_node (grown_refl _ none)).1.rb, (o21.rdn LN1.out).grown (World.grownBy_alloc w24 _ none)⟩
  have HG25 : Hid (w7.grownBy (w24.alloc (.cells #[.int .i64 r1.id, .slice V21.c.a V21.c.n V21.c.c, .int .i64 r1.term, .int .i64 r1.vote, .int .i64 r1.role, .int .i64 r1.lead, .int .i64 r1.b, .int .i64 r1.k, .slice V21.e.a V21.e.n V21.e.c, .string r1.snap, .int .i64 r1.com, .int .i64 r1.left, .int .i64 r1.wait, .slice V21.v.a V21.v.n V21.v.c, .slice V21.n.a V21.n.n V21.n.c, .slice V21.m.a V21.m.n V21.m.c] 28)) none) := grown_tr HG23.out G25
  have HBK25 : Hid (Bk (w24.alloc (.cells #[.int .i64 r1.id, .slice V21.c.a V21.c.n V21.c.c, .int .i64 r1.term, .int .i64 r1.vote, .int .i64 r1.role, .int .i64 r1.lead, .int .i64 r1.b, .int .i64 r1.k, .slice V21.e.a V21.e.n V21.e.c, .string r1.snap, .int .i64 r1.com, .int .i64 r1.left, .int .i64 r1.wait, .slice V21.v.a V21.v.n V21.v.c, .slice V21.n.a V21.n.n V21.n.c, .slice V21.m.a V21.m.n V21.m.c] 28)) B r1 r2 L2 q13 q15 V13 V15 s14 X14) := HBK23.out.grown G25
  clear G25 g24 o21 l22 m22 hL22 H1 RL RMg HBK23 HG23
  generalize w24.alloc (.cells #[.int .i64 r1.id, .slice V21.c.a V21.c.n V21.c.c, .int .i64 r1.term, .int .i64 r1.vote, .int .i64 r1.role, .int .i64 r1.lead, .int .i64 r1.b, .int .i64 r1.k, .slice V21.e.a V21.e.n V21.e.c, .string r1.snap, .int .i64 r1.com, .int .i64 r1.left, .int .i64 r1.wait, .slice V21.v.a V21.v.n V21.v.c, .slice V21.n.a V21.n.n V21.n.c, .slice V21.m.a V21.m.n V21.m.c] 28) = w25 at *
  generalize w24.heap.size = q21 at *
  have RL := (HL.out.lent.grown HG25.out).1
  have T1 := TA.out w25 HG25.out
  go_upto_region 35 with (first
    | (refine load_row (ty := 28) q8 0 (nc r V9) _ rfl RL Try.underlying28 rfl (by kernel_rfl) ?_)
    | (go_at_call 8; (with_reducible refine T1.mono ?_); rintro e w26 ⟨V23, s24, X24, T23, rfl, o23, l24, m24, hL24, g26⟩))
  have G27 : w25.grownBy (w26.alloc (.cells #[.int .i64 r2.id, .slice V23.c.a V23.c.n V23.c.c, .int .i64 r2.term, .int .i64 r2.vote, .int .i64 r2.role, .int .i64 r2.lead, .int .i64 r2.b, .int .i64 r2.k, .slice V23.e.a V23.e.n V23.e.c, .string r2.snap, .int .i64 r2.com, .int .i64 r2.left, .int .i64 r2.wait, .slice V23.v.a V23.v.n V23.v.c, .slice V23.n.a V23.n.n V23.n.c, .slice V23.m.a V23.m.n V23.m.c] 28)) none := grown_alloc g26 _
  have ga := World.grownBy_alloc w26 (.cells #[.int .i64 r2.id, .slice V23.c.a V23.c.n V23.c.c, .int .i64 r2.term, .int .i64 r2.vote, .int .i64 r2.role, .int .i64 r2.lead, .int .i64 r2.b, .int .i64 r2.k, .slice V23.e.a V23.e.n V23.e.c, .string r2.snap, .int .i64 r2.com, .int .i64 r2.left, .int .i64 r2.wait, .slice V23.v.a V23.v.n V23.v.c, .slice V23.n.a V23.n.n V23.n.c, .slice V23.m.a V23.m.n V23.m.c] 28) none
  have MS : Hid (∀ W, (w26.alloc (.cells #[.int .i64 r2.id, .slice V23.c.a V23.c.n V23.c.c, .int .i64 r2.term, .int .i64 r2.vote, .int .i64 r2.role, .int .i64 r2.lead, .int .i64 r2.b, .int .i64 r2.k, .slice V23.e.a V23.e.n V23.e.c, .string r2.snap, .int .i64 r2.com, .int .i64 r2.left, .int .i64 r2.wait, .slice V23.v.a V23.v.n V23.v.c, .slice V23.n.a V23.n.n V23.n.c, .slice V23.m.a V23.m.n V23.m.c] 28)).grownBy W none → Calls Try.prog 10 #[.slice s14.a s14.n s14.c, .slice s24.a s24.n s24.c] W fun e w' => e = .returned (.bool true) ∧ W.grownBy w' none) := fun W gr => by
    have BK := (HBK25.out.grown G27).grown gr
    obtain ⟨T3, km⟩ := BK.km
    have hl24 := (l24.grown ga).grown gr
    have hes : ∀ x ∈ X14, x.1.es.length * 24 ≤ 140737488351232 := fun x hx => by have := TE.out x.1 (by rw [← BK.kl]; exact List.mem_map.2 ⟨x, hx, rfl⟩); omega
    have hes2 : ∀ x ∈ X24, x.1.es.length * 24 ≤ 140737488351232 := fun x hx => by have := TE.out x.1 (by rw [← hL24]; exact List.mem_map.2 ⟨x, hx, rfl⟩); omega
    exact messages_same s14 s24 X14 X24 W BK.k.rx hl24.rx (fun x hx => Row.rdm (km x hx) (hes x hx)) (fun x hx => Row.rdm (Row.grown (m24 x hx) (grown_tr ga gr)) (hes2 x hx)) (BK.kl.trans hL24.symm) BK.k.len hl24.len (Nat.le_trans (Row.cap (T := fun _ => 0) (i := 0) (.inl ⟨BK.k, fun _ _ => rfl⟩)).1 (Row.cap (T := fun _ => 0) (i := 0) (.inl ⟨BK.k, fun _ _ => rfl⟩)).2)
  have SA : Hid (∀ W, (w26.alloc (.cells #[.int .i64 r2.id, .slice V23.c.a V23.c.n V23.c.c, .int .i64 r2.term, .int .i64 r2.vote, .int .i64 r2.role, .int .i64 r2.lead, .int .i64 r2.b, .int .i64 r2.k, .slice V23.e.a V23.e.n V23.e.c, .string r2.snap, .int .i64 r2.com, .int .i64 r2.left, .int .i64 r2.wait, .slice V23.v.a V23.v.n V23.v.c, .slice V23.n.a V23.n.n V23.n.c, .slice V23.m.a V23.m.n V23.m.c] 28)).grownBy W none → Calls Try.prog 9 #[nv r V9, nv r V7] W fun e w' => e = .returned (.bool true) ∧ W.grownBy w' none) := fun W gr => by
    have L9 := (HL.out.grown HG25.out).grown (grown_tr G27 gr)
    exact Same_same r V9 V7 W L9.lentd L9.wasd
  have SB : Hid (∀ W, (w26.alloc (.cells #[.int .i64 r2.id, .slice V23.c.a V23.c.n V23.c.c, .int .i64 r2.term, .int .i64 r2.vote, .int .i64 r2.role, .int .i64 r2.lead, .int .i64 r2.b, .int .i64 r2.k, .slice V23.e.a V23.e.n V23.e.c, .string r2.snap, .int .i64 r2.com, .int .i64 r2.left, .int .i64 r2.wait, .slice V23.v.a V23.v.n V23.v.c, .slice V23.n.a V23.n.n V23.n.c, .slice V23.m.a V23.m.n V23.m.c] 28)).grownBy W none → Calls Try.prog 9 #[nv r1 V15, nv r1 V21] W fun e w' => e = .returned (.bool true) ∧ W.grownBy w' none) := fun W gr => by
    have BK := (HBK25.out.grown G27).grown gr
    obtain ⟨T3, cd⟩ := BK.cd
    exact Same_same r1 V15 V21 W (cd.rdn LN1.out) (HB25.out.2.grown (grown_tr G27 gr))
  have SC : Hid (∀ W, (w26.alloc (.cells #[.int .i64 r2.id, .slice V23.c.a V23.c.n V23.c.c, .int .i64 r2.term, .int .i64 r2.vote, .int .i64 r2.role, .int .i64 r2.lead, .int .i64 r2.b, .int .i64 r2.k, .slice V23.e.a V23.e.n V23.e.c, .string r2.snap, .int .i64 r2.com, .int .i64 r2.left, .int .i64 r2.wait, .slice V23.v.a V23.v.n V23.v.c, .slice V23.n.a V23.n.n V23.n.c, .slice V23.m.a V23.m.n V23.m.c] 28)).grownBy W none → Calls Try.prog 9 #[nv r2 V13, nv r2 V23] W fun e w' => e = .returned (.bool true) ∧ W.grownBy w' none) := fun W gr => by
    have BK := (HBK25.out.grown G27).grown gr
    obtain ⟨T3, bd⟩ := BK.bd
    exact Same_same r2 V13 V23 W (bd.rdn LN2.out) ((o23.rdn LN2.out).grown (grown_tr ga gr))
  have FQ : Hid (∀ {W : World}, (w26.alloc (.cells #[.int .i64 r2.id, .slice V23.c.a V23.c.n V23.c.c, .int .i64 r2.term, .int .i64 r2.vote, .int .i64 r2.role, .int .i64 r2.lead, .int .i64 r2.b, .int .i64 r2.k, .slice V23.e.a V23.e.n V23.e.c, .string r2.snap, .int .i64 r2.com, .int .i64 r2.left, .int .i64 r2.wait, .slice V23.v.a V23.v.n V23.v.c, .slice V23.n.a V23.n.n V23.n.c, .slice V23.m.a V23.m.n V23.m.c] 28)).grownBy W none → Rb W q15 (nc r1 V15) ∧ Rb W q21 (nc r1 V21) ∧ Rb W q13 (nc r2 V13) ∧ Rb W w26.heap.size (nc r2 V23) ∧ Lent w W r g u q7 q8 gF N V7 V9) := fun {W} gr => by
    have BK := (HBK25.out.grown G27).grown gr
    exact ⟨BK.c, HB25.out.1.grown (grown_tr G27 gr), BK.b, ((box_node (grown_refl _ none)).1.rb).grown gr, (HL.out.grown HG25.out).grown (grown_tr G27 gr)⟩
  clear G27 ga o23 l24 m24 hL24 g26 T1 RL HBK25 HB25 HG25 HA TA
  generalize w26.alloc (.cells #[.int .i64 r2.id, .slice V23.c.a V23.c.n V23.c.c, .int .i64 r2.term, .int .i64 r2.vote, .int .i64 r2.role, .int .i64 r2.lead, .int .i64 r2.b, .int .i64 r2.k, .slice V23.e.a V23.e.n V23.e.c, .string r2.snap, .int .i64 r2.com, .int .i64 r2.left, .int .i64 r2.wait, .slice V23.v.a V23.v.n V23.v.c, .slice V23.n.a V23.n.n V23.n.c, .slice V23.m.a V23.m.n V23.m.c] 28) = w27 at *
  generalize w26.heap.size = q23 at *
  as_aux_lemma =>
  obtain ⟨_, _, _, _, L27⟩ := FQ.out (grown_refl _ none)
  have RL := L27.lent.1
  have RW := L27.was.1
  have S1 := SA.out w27 (grown_refl _ none)
  clear L27
  go_wp2_with (first
    | (refine load_row (ty := 28) q8 0 (nc r V9) _ rfl RL Try.underlying28 rfl (by kernel_rfl) ?_)
    | (refine load_row (ty := 28) q7 0 (nc r V7) _ rfl RW Try.underlying28 rfl (by kernel_rfl) ?_)
    | (refine load_row_on (ty := 28) q15 0 (nc r1 V15) _ (by rfl) rfl RC Try.underlying28 rfl (by kernel_rfl) ?_)
    | (refine load_row_on (ty := 28) q21 0 (nc r1 V21) _ (by rfl) rfl RD Try.underlying28 rfl (by kernel_rfl) ?_)
    | (refine load_row_on (ty := 28) q13 0 (nc r2 V13) _ (by rfl) rfl RB Try.underlying28 rfl (by kernel_rfl) ?_)
    | (refine load_row_on (ty := 28) q23 0 (nc r2 V23) _ (by rfl) rfl RE Try.underlying28 rfl (by kernel_rfl) ?_)
    | (go_at_call 9; (with_reducible refine S1.mono ?_); rintro e w28 ⟨rfl, g28⟩; obtain ⟨bc, bd, bb, be, L28⟩ := FQ.out g28; have fx := L28.x; have fy := L28.y; have RC := bc.1; have RD := bd.1; have S2 := SB.out w28 g28; clear bc bd bb be L28)
    | (go_at_call 9; (with_reducible refine S2.mono ?_); rintro e w29 ⟨rfl, g29⟩; have h29 := grown_tr g28 g29; obtain ⟨bc9, bd9, bb9, be9, L29⟩ := FQ.out h29; have RB := bb9.1; have RE := be9.1; have S3 := SC.out w29 h29; clear bc9 bd9 bb9 be9 L29)
    | (go_at_call 9; (with_reducible refine S3.mono ?_); rintro e w30 ⟨rfl, g30⟩; have h30 := grown_tr h29 g30; have M3 := MS.out w30 h30)
    | (go_at_call 10; (with_reducible refine M3.mono ?_); rintro e w31 ⟨rfl, g31⟩; have h31 := grown_tr h30 g31))
  go_ret
  exact ⟨rfl, grown_below (FQ.out h31).2.2.2.2.g⟩
end raftKeeps
end Go.Proofs.Ytdpcebaggldaiaa
