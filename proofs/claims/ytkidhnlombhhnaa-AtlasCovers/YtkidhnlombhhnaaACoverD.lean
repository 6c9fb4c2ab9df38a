/- Scripts of plans that begin, phases that are done, plans that are given up: how they came in, and what one of them does. -/
import Derived.Test.YtkidhnlombhhnaaACoverM
import Derived.Test.YtkidhnlombhhnaaAArgs
import Derived.Test.YtkidhnlombhhnaaAAbort
import Derived.Test.YtkidhnlombhhnaaAAwake
namespace Go.Proofs.Ytkidhnlombhhnaa
open Go.ChangeShapes Go.WideShapes Go.ChangeAt Go.RowKit Atl
set_option linter.unusedVariables false
set_option maxRecDepth 100000

abbrev dc (d : Dd) : List Value := [.int .i64 d.k, .int .i64 d.p.k, .int .i64 d.p.ph, .int .i64 d.p.sh, .int .i64 d.p.ot, .int .i64 d.p.gp, .int .i64 d.p.pa, .int .i64 d.p.ep, .string d.p.key, .int .i64 d.ph]
abbrev da (d : Dd) : Array Value := #[.int .i64 d.k, .int .i64 d.p.k, .int .i64 d.p.ph, .int .i64 d.p.sh, .int .i64 d.p.ot, .int .i64 d.p.gp, .int .i64 d.p.pa, .int .i64 d.p.ep, .string d.p.key, .int .i64 d.ph]
abbrev dv (d : Dd) : Value := .agg #[.int .i64 d.k, .int .i64 d.p.k, .int .i64 d.p.ph, .int .i64 d.p.sh, .int .i64 d.p.ot, .int .i64 d.p.gp, .int .i64 d.p.pa, .int .i64 d.p.ep, .string d.p.key, .int .i64 d.ph]
def eD : Elm Dd where
  el := 45
  sl := 42
  size := 10
  bytes := 88
  zero := .agg #[.int .i64 0, .int .i64 0, .int .i64 0, .int .i64 0, .int .i64 0, .int .i64 0, .int .i64 0, .int .i64 0, .string ⟨#[]⟩, .int .i64 0]
  enc := fun x => dc x
  hu := Try.underlying42
  hi := by kernel_rfl
  hz := rfl
  hs := by decide
  len := fun _ => rfl
  one := by intro x v hv; simp at hv; rcases hv with rfl | rfl | rfl | rfl | rfl | rfl | rfl | rfl | rfl | rfl <;> rfl
  he := by kernel_rfl
  so := fun W => Try.sizeOf45 W
theorem bytesD : Try.prog.bytesOf 45 = 88 := by kernel_rfl
theorem cs_do : Try.prog.cellsOf 45 = 10 := by kernel_rfl
theorem do_cells {H : Type} {enc : TypeId × Value → H} {W : World} {base : Nat} {held : Bool} {fuel : Nat} {cs : List Value} {x : DataW H × List MemPlace}
    (h : DataW.trod enc Try.prog W base (fun _ => true) held fuel 45 cs = some x) (hz : ∀ n ∈ x.1.weights Try.prog 45, n ≤ reachBytes) : ∃ d : Dd, cs = dc d ∧ d.p.key.size ≤ 140737488351232 := by
  obtain ⟨xs, n, _, hx, hl, hlen, hf⟩ := DataW.trod_struct Try.underlying45 h
  have hll : cs.length = 10 := by
    have : cs.length = Try.prog.cellsOf 45 := hl
    rw [cs_do] at this
    exact this
  have hxl : xs.length = 3 := hlen
  match cs, hll, xs, hxl with
  | [c0, c1, c2, c3, c4, c5, c6, c7, c8, c9], _, [x0, x1, x2], _ =>
    have h0 : DataW.trod enc Try.prog W base (fun _ => true) held n 3 (([c0, c1, c2, c3, c4, c5, c6, c7, c8, c9].drop 0).take (Try.prog.cellsOf 3)) = some x0 := hf 0 _ rfl
    have h1 : DataW.trod enc Try.prog W base (fun _ => true) held n 24 (([c0, c1, c2, c3, c4, c5, c6, c7, c8, c9].drop 1).take (Try.prog.cellsOf 24)) = some x1 := hf 1 _ rfl
    have h2 : DataW.trod enc Try.prog W base (fun _ => true) held n 3 (([c0, c1, c2, c3, c4, c5, c6, c7, c8, c9].drop 9).take (Try.prog.cellsOf 3)) = some x2 := hf 2 _ rfl
    simp only [cs_plan, cs_int, List.drop_zero, List.drop_succ_cons, List.take_succ_cons, List.take_zero] at h0 h1 h2
    have wt : ∀ (j : Nat) (t : TypeId) (d : DataW H), [3, 24, 3][j]? = some t → [x0.1, x1.1, x2.1][j]? = some d → ∀ n ∈ d.weights Try.prog t, n ≤ reachBytes := fun j t d ht hd n hn => by
      refine hz n ?_
      rw [hx]
      unfold DataW.weights
      rw [Try.underlying45]
      exact DataW.weights_mem_each ht hd n hn
    obtain ⟨y0, e0, _, _⟩ := DataW.trod_int Try.underlying3 h0
    obtain ⟨p, e1, kp⟩ := plan_cells h1 (wt 1 _ _ rfl rfl)
    obtain ⟨y2, e2, _, _⟩ := DataW.trod_int Try.underlying3 h2
    simp at e0 e2
    injection e1 with p0 p1
    injection p1 with p1 p2
    injection p2 with p2 p3
    injection p3 with p3 p4
    injection p4 with p4 p5
    injection p5 with p5 p6
    injection p6 with p6 p7
    injection p7 with p7 _
    exact ⟨⟨y0, p, y2⟩, by rw [e0, p0, p1, p2, p3, p4, p5, p6, p7, e2], kp⟩
def Szd (l : List Dd) : Prop := ∀ d ∈ l, d.p.key.size ≤ 140737488351232
theorem open_dos {H : Type} {enc : TypeId × Value → H} {W : World} {r : Reach} {base : Nat} {v : Value} {d : DataW H} {p : List MemPlace}
    (hv : Value.okWide Try.prog W r base 42 v) (hT : DataW.Trod enc Try.prog W 0 (fun _ => true) true 42 v d p) (hz : ∀ n ∈ d.weights Try.prog 42, n ≤ reachBytes) : ∃ (u : S3) (l : List Dd), v = .slice u.a u.n u.c ∧ eD.Rx W (.slice u.a u.n u.c) l ∧ u.n = l.length ∧ l.length * 88 ≤ 140737488355328 ∧ Szd l := by
  obtain ⟨fuel, h⟩ := hT
  obtain ⟨a', n', c', hve⟩ := okWide_slice Try.underlying42 hv
  subst hve
  simp only [Value.cells] at h
  rcases Go.Deep.open_slice Try.underlying42 h with ⟨hcs, hx⟩ | ⟨a, len, cap, m, n, D, Pl, hcs, hb, hl, hm, hmm, hx, hall⟩
  · injection hcs with hcs _
    rw [hcs]
    exact ⟨nil3, [], rfl, .inl ⟨rfl, rfl⟩, rfl, by simp, fun s hs => by simp at hs⟩
  · injection hcs with hcs _
    rw [hcs]
    have hm' : cap ≤ 9223372036854775807 := hm
    have hlm : len ≤ m := by rw [hmm]; split <;> omega
    have hd : d = .slice ((List.range len).map D) ((List.range (m - len)).map fun j => D (len + j)) := congrArg Prod.fst hx
    obtain ⟨X, hX, hQ⟩ := list_of (Q := fun i (o : Dd) => (∀ j, j < 10 → W.cell? (a.add (i * 10 + j)) = (dc o)[j]?) ∧ o.p.key.size ≤ 140737488351232) len fun i hi => by
      obtain ⟨cs', h1, h2⟩ := hall i (by omega)
      rw [cs_do] at h1
      obtain ⟨g, rfl, k1⟩ := do_cells h2 (fun n hn => hz n (by
        rw [hd]
        unfold DataW.weights
        rw [Try.underlying42]
        exact List.mem_cons_of_mem _ (List.mem_append.2 (.inl (weights_all (List.mem_map.2 ⟨i, List.mem_range.2 hi, rfl⟩) n hn)))))
      obtain ⟨_, hlen, hcell⟩ := World.cells?_some h1
      refine ⟨g, fun j hj => ?_, k1⟩
      have := hcell j (by simpa using hj)
      rw [Go.Deep.add_add] at this
      exact this
    have hwt : len * 88 ≤ 140737488351232 := by
      have h1 := hz ((((List.range len).map D).length + ((List.range (m - len)).map fun j => D (len + j)).length) * Try.prog.bytesOf 45) (by rw [hd]; simp [DataW.weights, Try.underlying42])
      rw [rch_is, bytesD] at h1
      have h3 : rch = 140737488351232 := rfl
      rw [h3] at h1
      simp at h1
      omega
    have hspot : len = 0 ∨ a.spot = none := by
      by_cases h0 : len = 0
      · exact .inl h0
      · right
        obtain ⟨o, ho⟩ : ∃ o, X[0]? = some o := ⟨_, List.getElem?_eq_getElem (by omega)⟩
        have h1 := (hQ 0 o ho).1 0 (by omega)
        have h2 : (dc o)[0]? = some (.int .i64 o.k) := rfl
        rw [h2] at h1
        simpa [Addr.add] using World.cell?_spot h1
    refine ⟨⟨some a, len, cap⟩, X, rfl, .inr ⟨a, cap, by rw [hX], ?_, fun t u hu => ?_⟩, hX.symm, by rw [hX]; omega, fun s hs => ?_⟩
    · rcases hspot with e | e
      · exact .inl (List.eq_nil_of_length_eq_zero (by omega))
      · exact .inr e
    · have ht : t < X.length * 10 := by
        have := (List.getElem?_eq_some_iff.1 hu).1
        rw [Elm.cells_len] at this
        exact this
      obtain ⟨y, hy⟩ : ∃ a, X[t / 10]? = some a := ⟨_, List.getElem?_eq_getElem (by omega)⟩
      have h1 := Elm.cells_at eD hy (t % 10) (Nat.mod_lt _ (by decide))
      have e : t / 10 * eD.size + t % 10 = t := by show t / 10 * 10 + t % 10 = t; omega
      rw [e, hu] at h1
      have h2 := (hQ _ y hy).1 (t % 10) (Nat.mod_lt _ (by decide))
      rw [show t / 10 * 10 + t % 10 = t by omega] at h2
      rw [h2]
      exact h1.symm
    · obtain ⟨i, hi, e⟩ := List.getElem_of_mem hs
      exact (hQ i s (by rw [List.getElem?_eq_getElem hi, e])).2
theorem do_at {w : World} {ad : Option Addr} {N c : Nat} {X : List Dd} {i : Nat} {x : Dd} (h : eD.Rx w (.slice ad N c) X) (hi : X[i]? = some x) : ∃ g o, ad = some ⟨g, o, none⟩ ∧ w.rangeAt g (o + i * 10) (dc x) := by
  obtain ⟨g, o, c, h1, h2⟩ := h.at_ hi
  injection h1 with h1 _ _
  exact ⟨g, o, h1, h2⟩
theorem load_d {ops : Array Oper} {rest : List Oper} {d : Option Tmp} {ty' : TypeId} {x : Operand} {ps : String} {af : Array Edge} {a : Act} {w : World} {Q : Exit → Act → World → Prop}
    (q o : Nat) (s : Dd) (hx : a.eval x = .pointer (some ⟨q, o, none⟩)) (hr : w.rangeAt q o (dc s))
    (h : wpList Try.prog ops Q rest (a.put d (dv s)) w) : wpList Try.prog ops Q (⟨d, .load 45 x, ty', ps, af, none⟩ :: rest) a w :=
  wpList_load_mid rfl 45 x rfl q o hx (dc s) _ hr Try.underlying45 rfl (by kernel_rfl) h
theorem plan_of {w : World} {q : Nat} {d : Dd} (h : w.rangeAt q 0 (dc d)) : w.rangeAt q 1 (pc d.p) := by
  intro j v hj
  have hl := (List.getElem?_eq_some_iff.1 hj).1
  have := h (1 + j) v (by
    rw [Nat.add_comm, List.getElem?_cons_succ]
    exact (List.getElem?_append_left (l₂ := [.int .i64 d.ph]) hl).trans hj)
  rwa [Nat.zero_add] at this
/-- A box that is written whole. -/
theorem res_box {w W w9 : World} {q : Nat} {M : Am} {u : S3} (g : w.grownBy W none) (hC : Cs W q zaa.toList) (hq : w.heap.size ≤ q) (hr : Rat W M u) (hb : ∀ k, (Value.slice u.a u.n u.c).ownBlock = some k → k ≠ q) (e : w9 = W.setCells q 0 (ac M u)) :
    w9.rangeAt q 0 (ac M u) ∧ Rat w9 M u ∧ w.grownBy w9 none := by
  have gs := grown_setCells q (ac M u) 0 W
  refine ⟨box_set hC rfl e, ?_, box_grown g hq e⟩
  rw [e]
  exact hr.kept (Chg.of (F := fun k => k = q) gs (fun k e => by injection e with e; exact e.symm)) (fun _ k hk => hb k hk)
set_option maxRecDepth 100000 in
set_option maxHeartbeats 12800000 in
theorem does_any (a : Am) (u : S3) (d : Dd) (w : World) (h : Rat w a u) (hz : Szm a) (hk : d.p.key.size ≤ 140737488351232) : Calls Try.prog 23 #[av a u, dv d] w fun e w' => Res w (doM a d) (doE a d) e w' := by
  have BG : Hid (∀ W, w.grownBy W none → Calls Try.prog 17 #[av a u, pv d.p] W fun e w' => Res W (begM a d.p) (begE a d.p) e w') := fun W g => begin_any a u d.p W (h.grown g) hz hk
  have AV : Hid (∀ W, w.grownBy W none → Calls Try.prog 19 #[av a u, .int .i64 d.ph] W fun e w' => Res W (advM a d.ph) (advE a d.ph) e w') := fun W g => advance_any a u d.ph W (h.grown g) hz
  have AB : Hid (∀ W, w.grownBy W none → Calls Try.prog 21 #[av a u] W fun e w' => Res W (aboM a) (aboE a) e w') := fun W g => abort_any a u W (h.grown g) hz
  obtain ⟨W0, hW0⟩ : ∃ W0, W0 = ((w.alloc (.cells (aa a u) 26)).alloc (.cells (da d) 45)).alloc (.cells zaa 26) := ⟨_, rfl⟩
  have s1 : (w.alloc (.cells (aa a u) 26)).heap.size = w.heap.size + 1 := by simp
  have s2 : ((w.alloc (.cells (aa a u) 26)).alloc (.cells (da d) 45)).heap.size = w.heap.size + 2 := by simp
  have t1 : ∀ (x : World) o, x.grownBy (x.alloc o) none := fun x o => World.grownBy_alloc _ _ none
  have G0 : Hid (w.grownBy W0 none) := by rw [hW0]; exact grown_tr (t1 _ _) (grown_tr (t1 _ _) (t1 _ _))
  have Z0 : Hid (W0.heap.size = w.heap.size + 3) := by show _ = _; rw [hW0]; simp
  have CA : Hid (∀ W, W0.grownBy W none → W.rangeAt w.heap.size 0 (ac a u)) := fun W g => by rw [hW0] at g; exact (cs_new (grown_tr (t1 _ _) (grown_tr (t1 _ _) g))).1
  have CD : Hid (∀ W, W0.grownBy W none → W.rangeAt (w.heap.size + 1) 0 (dc d)) := fun W g => by
    rw [hW0] at g
    have := (cs_new (grown_tr (t1 _ _) g)).1
    rwa [s1] at this
  have CR : Hid (∀ W, W0.grownBy W none → Cs W (w.heap.size + 2) zaa.toList) := fun W g => by
    rw [hW0] at g
    have := cs_new g
    rwa [s2] at this
  have HW0 : Hid (W0 = _) := hW0
  clear hW0 s1 s2 t1 h hz hk
  have RES : Hid (∀ (M : Am) (n : Int) (x : Act) (w9 : World) (w2 : World) (v : S3), w2 = w2 → True) := fun _ _ _ _ _ _ _ => trivial
  clear RES
  have d0 := (CD.out W0 (grown_refl _ _)) 0 _ rfl
  have d9 := (CD.out W0 (grown_refl _ _)) 9 _ rfl
  simp only [Nat.zero_add] at d0 d9
  unfold doM doE
  by_cases k0 : d.k = 0
  · have e0 : (d.k == 0) = true := by simpa using k0
    rw [if_pos k0, if_pos k0]
    clear k0 AV AB d9
    go_enter Try.func23, Try.ntmps23
    go_upto_region 1 with fail
    rw [show (#[Value.int .i64 0, .int .i64 0, .slice none 0 0, .int .i64 0, .int .i64 0, .int .i64 0, .int .i64 0, .int .i64 0, .int .i64 0, .int .i64 0, .string ⟨#[]⟩] : Array Value) = zaa from rfl, ← HW0.out]
    go_wp2_with (first
      | (refine load_a w.heap.size 0 a u rfl (CA.out W0 (grown_refl _ _)) ?_)
      | (refine load_p (w.heap.size + 1) 1 d.p rfl (plan_of (CD.out W0 (grown_refl _ _))) ?_)
      | (go_at_call 17; (with_reducible refine (BG.out _ G0.out).mono ?_); rintro e w2 ⟨u2, rfl, r2, g2, b2⟩)
      | (refine store_row (ty := 26) (w.heap.size + 2) 0 (aa (begM a d.p) u2) rfl rfl ((CR.out w2 g2).there (by simp)) (by kernel_rfl) (by simp [Value.oneCell']) ?_; intro w9 h9; have H9 : Hid (w9 = w2.setCells (w.heap.size + 2) 0 (ac (begM a d.p) u2)) := h9; clear h9))
    obtain ⟨k1, k2, k3⟩ := res_box (grown_tr G0.out g2) (CR.out w2 g2) (by omega) r2 (fun k e => by have h1 := b2 k e; have h2 := Z0.out; omega) H9.out
    refine bodyPost_ret (v := .tuple #[av (begM a d.p) u2, .int .i64 (begE a d.p)]) ?_ rfl ?_
    · exact res_row2 (P := Try.prog) (fn := Try.f23) (p := 4) (u := 5) (ty := 26) rfl rfl k1 Try.underlying26 rfl (by kernel_rfl)
    · exact ⟨u2, rfl, k2, k3, fun k e => by have h1 := b2 k e; have h2 := Z0.out; omega⟩
  · have e0 : (d.k == 0) = false := by simpa using k0
    rw [if_neg k0, if_neg k0]
    by_cases k1 : d.k = 1
    · have e1 : (d.k == 1) = true := by simpa using k1
      rw [if_pos k1, if_pos k1]
      clear k0 k1 BG AB
      go_enter Try.func23, Try.ntmps23
      go_upto_region 1 with fail
      rw [show (#[Value.int .i64 0, .int .i64 0, .slice none 0 0, .int .i64 0, .int .i64 0, .int .i64 0, .int .i64 0, .int .i64 0, .int .i64 0, .int .i64 0, .string ⟨#[]⟩] : Array Value) = zaa from rfl, ← HW0.out]
      go_wp2_with (first
        | (refine load_a w.heap.size 0 a u rfl (CA.out W0 (grown_refl _ _)) ?_)
        | (go_at_call 19; (with_reducible refine (AV.out _ G0.out).mono ?_); rintro e w2 ⟨u2, rfl, r2, g2, b2⟩)
        | (refine store_row (ty := 26) (w.heap.size + 2) 0 (aa (advM a d.ph) u2) rfl rfl ((CR.out w2 g2).there (by simp)) (by kernel_rfl) (by simp [Value.oneCell']) ?_; intro w9 h9; have H9 : Hid (w9 = w2.setCells (w.heap.size + 2) 0 (ac (advM a d.ph) u2)) := h9; clear h9))
      obtain ⟨k1, k2, k3⟩ := res_box (grown_tr G0.out g2) (CR.out w2 g2) (by omega) r2 (fun k e => by have h1 := b2 k e; have h2 := Z0.out; omega) H9.out
      refine bodyPost_ret (v := .tuple #[av (advM a d.ph) u2, .int .i64 (advE a d.ph)]) ?_ rfl ?_
      · exact res_row2 (P := Try.prog) (fn := Try.f23) (p := 4) (u := 5) (ty := 26) rfl rfl k1 Try.underlying26 rfl (by kernel_rfl)
      · exact ⟨u2, rfl, k2, k3, fun k e => by have h1 := b2 k e; have h2 := Z0.out; omega⟩
    · have e1 : (d.k == 1) = false := by simpa using k1
      rw [if_neg k1, if_neg k1]
      clear k0 k1 BG AV d9
      go_enter Try.func23, Try.ntmps23
      go_upto_region 1 with fail
      rw [show (#[Value.int .i64 0, .int .i64 0, .slice none 0 0, .int .i64 0, .int .i64 0, .int .i64 0, .int .i64 0, .int .i64 0, .int .i64 0, .int .i64 0, .string ⟨#[]⟩] : Array Value) = zaa from rfl, ← HW0.out]
      go_wp2_with (first
        | (refine load_a w.heap.size 0 a u rfl (CA.out W0 (grown_refl _ _)) ?_)
        | (go_at_call 21; (with_reducible refine (AB.out _ G0.out).mono ?_); rintro e w2 ⟨u2, rfl, r2, g2, b2⟩)
        | (refine store_row (ty := 26) (w.heap.size + 2) 0 (aa (aboM a) u2) rfl rfl ((CR.out w2 g2).there (by simp)) (by kernel_rfl) (by simp [Value.oneCell']) ?_; intro w9 h9; have H9 : Hid (w9 = w2.setCells (w.heap.size + 2) 0 (ac (aboM a) u2)) := h9; clear h9))
      obtain ⟨k1, k2, k3⟩ := res_box (grown_tr G0.out g2) (CR.out w2 g2) (by omega) r2 (fun k e => by have h1 := b2 k e; have h2 := Z0.out; omega) H9.out
      refine bodyPost_ret (v := .tuple #[av (aboM a) u2, .int .i64 (aboE a)]) ?_ rfl ?_
      · exact res_row2 (P := Try.prog) (fn := Try.f23) (p := 4) (u := 5) (ty := 26) rfl rfl k1 Try.underlying26 rfl (by kernel_rfl)
      · exact ⟨u2, rfl, k2, k3, fun k e => by have h1 := b2 k e; have h2 := Z0.out; omega⟩
end Go.Proofs.Ytkidhnlombhhnaa
