/- The reference's mesh: Double. -/
import Derived.Test.YtffbaomaiohdiaaMRef3
import Derived.Test.YtffbaomaiohdiaaMInv
namespace Go.Proofs.Ytffbaomaiohdiaa
open Go.RowKit Msh
set_option linter.unusedVariables false
set_option maxRecDepth 10000

section
variable {P : Program} {o : Oper} {a : Act} {w : World} {K : Act → World → Prop} {Q : Exit → Act → World → Prop}
theorem wp_val (v : Value) (w' : World) (h : (execOp a.eval o).run P w = .ok (.value v) w') (hK : K (a.put o.dst v) w') : o.wp P a w K Q := by
  unfold Oper.wp
  rw [h]
  exact hK
theorem wp_move {x : Operand} (ho : o.op = .move x) (hK : K (a.put o.dst (a.eval x)) w) : o.wp P a w K Q := by
  refine wp_val _ _ ?_ hK
  unfold execOp
  simp only [ho]
  rfl
theorem wp_nil {x : Operand} (p : Addr) (ho : o.op = .nilCheck x) (hx : a.eval x = .pointer (some p)) (hK : K (a.put o.dst (.pointer (some p))) w) : o.wp P a w K Q := by
  refine wp_val _ _ ?_ hK
  unfold execOp
  simp only [ho, hx]
  go_simp
theorem wp_field {t : TypeId} {x : Operand} {k : Nat} {v : Value} (ho : o.op = .fieldAddr t x k) (hr : (Instr.fieldAt t (a.eval x) k).run P w = .ok v w) (hK : K (a.put o.dst v) w) : o.wp P a w K Q := by
  refine wp_val _ _ ?_ hK
  unfold execOp
  simp only [ho]
  simp [hr]
theorem wp_load {t : TypeId} {x : Operand} {v : Value} (ho : o.op = .load t x) (hr : (Instr.loadAt t (a.eval x)).run P w = .ok v w) (hK : K (a.put o.dst v) w) : o.wp P a w K Q := by
  refine wp_val _ _ ?_ hK
  unfold execOp
  simp only [ho]
  simp [hr]
theorem wp_call {f : FuncId} {args : Array Value} {C : Ending → World → Prop} (hr : (execOp a.eval o).run P w = .ok (.enter f args) w) (hc : Calls P f args w C) (hK : ∀ e w', C e w' → ∃ v, e = .returned v ∧ K (a.put o.dst v) w') : o.wp P a w K Q := by
  unfold Oper.wp
  rw [hr, Oper.upon_enter]
  refine hc.mono fun e w' h => ?_
  obtain ⟨v, rfl, hk⟩ := hK e w' h
  exact hk
theorem wp_callf {f : FuncId} {c : Call} {args : Array Value} {C : Ending → World → Prop} (ho : o.op = .call c) (hr : (do let d ← resolve a.eval c o.type; invoke d.target d.args : Sem Next).run P w = .ok (.enter f args) w) (hc : Calls P f args w C) (hK : ∀ e w', C e w' → ∃ v, e = .returned v ∧ K (a.put o.dst v) w') : o.wp P a w K Q := by
  refine wp_call ?_ hc hK
  unfold execOp
  simp only [ho]
  exact hr
theorem wp_index {t : TypeId} {x y : Operand} {v : Value} (ho : o.op = .indexAddr t x y) (hr : (Instr.indexAt t (a.eval x) (a.eval y)).run P w = .ok v w) (hK : K (a.put o.dst v) w) : o.wp P a w K Q := by
  refine wp_val _ _ ?_ hK
  unfold execOp
  simp only [ho]
  simp [hr]
theorem wp_extract {x : Operand} {k : Nat} {v : Value} (ho : o.op = .extract x k) (hr : (Instr.extract (a.eval x) k).run P w = .ok v w) (hK : K (a.put o.dst v) w) : o.wp P a w K Q := by
  refine wp_val _ _ ?_ hK
  unfold execOp
  simp only [ho]
  simp [hr]
theorem wp_assign {x : Operand} (ho : o.op = .assign x) (hK : K (a.put o.dst (a.eval x)) w) : o.wp P a w K Q := by
  refine wp_val _ _ ?_ hK
  unfold execOp
  simp only [ho]
  rfl
end
section
variable {P : Program} {ops : Array Oper} {o : Oper} {a : Act} {w : World} {K : Act → World → Prop} {Q : Exit → Act → World → Prop}
theorem wpOp_on {i : Nat} (ho : ops[i]? = some o) (hw : Region.wanted o (yielded ops a.tmps) = true) (h : o.wp P a w K Q) : wpOp P ops Q i K a w := by
  unfold wpOp
  rw [ho]
  simp only
  rw [if_pos hw]
  exact .inl h
theorem wanted_none {y : Nat → Option Bool} (hg : o.guard = none) : Region.wanted o y = true := by
  unfold Region.wanted
  rw [hg]
end
theorem ev_of {a : Act} {k : Nat} {v : Value} (h : a.tmps[k]? = some v) : a.eval (.tmp k) = v := by
  unfold Act.eval
  simp only
  rw [Array.getD_eq_getD_getElem?, h]
  rfl
def backB (ops : Array Oper) : Bool := (List.range ops.size).all fun i => ((ops[i]?).map fun o => o.after.all fun e => decide (e.on < i)).getD true
theorem back_of {ops : Array Oper} (h : backB ops = true) : ∀ i o, ops[i]? = some o → ∀ e ∈ o.after, Region.binds .any e = true → e.on < i := by
  intro i o ho e he _
  unfold backB at h
  rw [List.all_eq_true] at h
  have hi : i < ops.size := (Array.getElem?_eq_some_iff.1 ho).1
  have h1 := h i (by simpa using hi)
  rw [ho] at h1
  simp only [Option.map_some, Option.getD_some] at h1
  rw [Array.all_eq_true_iff_forall_mem] at h1
  simpa using h1 e he

theorem send_short {s : Ms} {fm tt : Int} {body : ByteArray} (hb : body.size ≤ 65536) : sendI s body = entI s ∧ sendE s body = entE s.l ∧ ∀ p : Pk, p.fm = fm → p.tt = tt → p.body = body → sendS s fm tt body = entS s p := by
  unfold sendI sendE sendS
  rw [if_neg (by omega), if_neg (by omega), if_neg (by omega)]
  refine ⟨rfl, rfl, fun p h1 h2 h3 => ?_⟩
  unfold entS
  rw [h1, h2, h3]
set_option maxRecDepth 100000 in
set_option maxHeartbeats 12800000 in
theorem rdouble_any (q : Nat) (s : Ms) (F : Nat → Prop) (id : Int) (w : World) (h : Rm w q s F) (hn : s.n ≤ 1000000) :
    Calls Try.prog 18 #[.pointer (some ⟨q, 0, none⟩), .int .i64 id] w fun e w' => e = .returned (.tuple #[.int .i64 (dblI s id), .int .i64 (dblE s id)]) ∧ RLeft w w' q (dblS s id) F := by
  have H0 : Hid (Rm w q s F) := h
  obtain ⟨vl, vc, h1, h2⟩ := h
  have FI := rFind_any q vl vc s id w h1
  unfold dblI dblE dblS
  unfold fnd at FI
  cases hth : there s.l id with
  | false =>
    rw [hth] at FI
    simp only [Bool.false_eq_true, if_false] at FI ⊢
    clear h1
    go_enter Try.func18, Try.ntmps18
    go_wp2_with (go_at_call 29; (with_reducible refine FI.mono ?_); rintro e w2 ⟨rfl, e2⟩; have e2' := e2.symm; clear e2; subst e2')
    go_ret2
    exact ⟨rfl, RLeft.same H0.out (grown_refl _ _)⟩
  | true =>
    rw [hth] at FI
    simp only [if_true] at FI ⊢
    obtain ⟨p, hp, he⟩ := there_at h1.ok.rise hth
    rw [at_is hp]
    have hmem := List.mem_of_getElem? hp
    have htx := h1.ok.txt p hmem
    obtain ⟨y0, z0, u0⟩ := send_short (s := s) (fm := p.fm) (tt := p.tt) (body := p.body) htx
    have u1 := u0 p rfl rfl rfl
    have SD := rsend_any q s F p.fm p.tt p.body w.drew (H0.out.grown (grown_drew (grown_refl _ none))) hn (by omega)
    rw [y0, z0, u1] at SD
    obtain ⟨g, o, c, hv, hr⟩ := range_pk h1.row.rx hp
    have c0 := h1.c0
    have hl := h1.ok.len
    have hil := (List.getElem?_eq_some_iff.1 hp).1
    subst hv
    have r1 : w.cell? ⟨g, o + pos s.l id * 4 + 1, none⟩ = some (.int .i64 p.fm) := hr 1 _ rfl
    have r2 : w.cell? ⟨g, o + pos s.l id * 4 + 2, none⟩ = some (.int .i64 p.tt) := hr 2 _ rfl
    have r3 : w.cell? ⟨g, o + pos s.l id * 4 + 3, none⟩ = some (.string p.body) := hr 3 _ rfl
    generalize s.l.length = N at *
    generalize pos s.l id = i at *
    generalize entI s = X at *
    generalize entE s.l = Y at *
    clear h1 hp he hth hr y0 z0 u0 u1 hmem htx
    go_enter Try.func18, Try.ntmps18
    go_upto_region 4 with (go_at_call 29; (with_reducible refine FI.mono ?_); rintro e w2 ⟨rfl, e2⟩; have e2' := e2.symm; clear e2; subst e2')
    -- the region
    have IX : ∀ W, (Instr.indexAt 27 (.slice (some ⟨g, o, none⟩) N c) (.int .i64 (i : Int))).run Try.prog W = .ok (.pointer (some ⟨g, o + i * 4, none⟩)) W := fun W => Elm.run_at (E := eP) (by omega) (by omega)
    refine wp_region_phase 30 25 (fun i => if i < 28 then 12 + i else i - 24) (fun k => match k with
      | 0 => (.pointer (some ⟨q, 0, none⟩))
      | 1 => (.pointer (some ⟨q, 0, none⟩))
      | 2 => (.pointer (some ⟨q, 0, none⟩))
      | 3 => (.pointer (some ⟨q, 0, none⟩))
      | 4 => (.slice (some ⟨g, o, none⟩) N c)
      | 5 => (.int .i64 (i : Int))
      | 6 => (.pointer (some ⟨g, o + i * 4, none⟩))
      | 7 => (.pointer (some ⟨g, o + i * 4 + 1, none⟩))
      | 8 => (.int .i64 p.fm)
      | 9 => (.pointer (some ⟨q, 0, none⟩))
      | 10 => (.pointer (some ⟨q, 0, none⟩))
      | 11 => (.pointer (some ⟨q, 0, none⟩))
      | 12 => (.slice (some ⟨g, o, none⟩) N c)
      | 13 => (.int .i64 (i : Int))
      | 14 => (.pointer (some ⟨g, o + i * 4, none⟩))
      | 15 => (.pointer (some ⟨g, o + i * 4 + 2, none⟩))
      | 16 => (.int .i64 p.tt)
      | 17 => (.pointer (some ⟨q, 0, none⟩))
      | 18 => (.pointer (some ⟨q, 0, none⟩))
      | 19 => (.pointer (some ⟨q, 0, none⟩))
      | 20 => (.slice (some ⟨g, o, none⟩) N c)
      | 21 => (.int .i64 (i : Int))
      | 22 => (.pointer (some ⟨g, o + i * 4, none⟩))
      | 23 => (.pointer (some ⟨g, o + i * 4 + 3, none⟩))
      | 24 => (.string p.body)
      | 25 => (.tuple #[.int .i64 X, .int .i64 Y])
      | 26 => (.int .i64 X)
      | 27 => (.int .i64 Y)
      | 28 => (.int .i64 X)
      | _ => (.int .i64 Y)) (fun W => RLeft w.drew W q (entS s p) F) (by kernel_rfl) rfl (by omega) ?_ rfl ?_ (by kernel_rfl) (back_of (by kernel_rfl)) ?_ ?_
    · intro i hi
      show (if i < 28 then 12 + i else i - 24) < 40
      split <;> omega
    · intro i j hi hj hij
      have hij : (if i < 28 then 12 + i else i - 24) = (if j < 28 then 12 + j else j - 24) := hij
      split at hij <;> split at hij <;> omega
    · intro k o ho a w1 hw hout hin K hK
      match k with
      | 0 =>
        have ho' := Option.some.inj ho
        subst ho'
        refine wpOp_on rfl (wanted_none rfl) ?_
        have xo : a.eval (.tmp 0) = (.pointer (some ⟨q, 0, none⟩)) := ev_of (hout 0 (by intro i hi; show (if i < 28 then 12 + i else i - 24) ≠ 0; split <;> omega))
        refine wp_move rfl ?_
        rw [xo]
        exact hK _ rfl
      | 1 =>
        have ho' := Option.some.inj ho
        subst ho'
        refine wpOp_on rfl (wanted_none rfl) ?_
        have xo : a.eval (.tmp 0) = (.pointer (some ⟨q, 0, none⟩)) := ev_of (hout 0 (by intro i hi; show (if i < 28 then 12 + i else i - 24) ≠ 0; split <;> omega))
        refine wp_move rfl ?_
        rw [xo]
        exact hK _ rfl
      | 2 =>
        have ho' := Option.some.inj ho
        subst ho'
        have t1 : a.tmps[13]? = some (.pointer (some ⟨q, 0, none⟩)) := hin ⟨1, .data⟩ (by simp) rfl
        have x1 : a.eval (.tmp 13) = (.pointer (some ⟨q, 0, none⟩)) := ev_of t1
        refine wpOp_on rfl (wanted_none rfl) ?_
        exact wp_nil _ rfl x1 (hK _ rfl)
      | 3 =>
        have ho' := Option.some.inj ho
        subst ho'
        have t2 : a.tmps[14]? = some (.pointer (some ⟨q, 0, none⟩)) := hin ⟨2, .data⟩ (by simp) rfl
        have x2 : a.eval (.tmp 14) = (.pointer (some ⟨q, 0, none⟩)) := ev_of t2
        refine wpOp_on rfl (wanted_none rfl) ?_
        refine wp_field (v := (.pointer (some ⟨q, 0, none⟩))) rfl ?_ (hK _ rfl)
        rw [x2]
        go_simp
      | 4 =>
        have ho' := Option.some.inj ho
        subst ho'
        have t3 : a.tmps[15]? = some (.pointer (some ⟨q, 0, none⟩)) := hin ⟨3, .data⟩ (by simp) rfl
        have x3 : a.eval (.tmp 15) = (.pointer (some ⟨q, 0, none⟩)) := ev_of t3
        refine wpOp_on rfl (wanted_none rfl) ?_
        have hw1 := hw (by omega)
        subst hw1
        refine wp_load (v := (.slice (some ⟨g, o, none⟩) N c)) rfl ?_ (hK _ rfl)
        rw [x3]
        go_simp
      | 5 =>
        have ho' := Option.some.inj ho
        subst ho'
        refine wpOp_on rfl (wanted_none rfl) ?_
        have xo : a.eval (.tmp 6) = (.int .i64 (i : Int)) := ev_of (hout 6 (by intro i hi; show (if i < 28 then 12 + i else i - 24) ≠ 6; split <;> omega))
        refine wp_move rfl ?_
        rw [xo]
        exact hK _ rfl
      | 6 =>
        have ho' := Option.some.inj ho
        subst ho'
        have t4 : a.tmps[16]? = some (.slice (some ⟨g, o, none⟩) N c) := hin ⟨4, .data⟩ (by simp) rfl
        have x4 : a.eval (.tmp 16) = (.slice (some ⟨g, o, none⟩) N c) := ev_of t4
        have t5 : a.tmps[17]? = some (.int .i64 (i : Int)) := hin ⟨5, .data⟩ (by simp) rfl
        have x5 : a.eval (.tmp 17) = (.int .i64 (i : Int)) := ev_of t5
        refine wpOp_on rfl (wanted_none rfl) ?_
        refine wp_index (v := (.pointer (some ⟨g, o + i * 4, none⟩))) rfl ?_ (hK _ rfl)
        rw [x4, x5]
        exact IX _
      | 7 =>
        have ho' := Option.some.inj ho
        subst ho'
        have t6 : a.tmps[18]? = some (.pointer (some ⟨g, o + i * 4, none⟩)) := hin ⟨6, .data⟩ (by simp) rfl
        have x6 : a.eval (.tmp 18) = (.pointer (some ⟨g, o + i * 4, none⟩)) := ev_of t6
        refine wpOp_on rfl (wanted_none rfl) ?_
        refine wp_field (v := (.pointer (some ⟨g, o + i * 4 + 1, none⟩))) rfl ?_ (hK _ rfl)
        rw [x6]
        go_simp
      | 8 =>
        have ho' := Option.some.inj ho
        subst ho'
        have t7 : a.tmps[19]? = some (.pointer (some ⟨g, o + i * 4 + 1, none⟩)) := hin ⟨7, .data⟩ (by simp) rfl
        have x7 : a.eval (.tmp 19) = (.pointer (some ⟨g, o + i * 4 + 1, none⟩)) := ev_of t7
        refine wpOp_on rfl (wanted_none rfl) ?_
        have hw1 := hw (by omega)
        subst hw1
        refine wp_load (v := (.int .i64 p.fm)) rfl ?_ (hK _ rfl)
        rw [x7]
        go_simp
      | 9 =>
        have ho' := Option.some.inj ho
        subst ho'
        refine wpOp_on rfl (wanted_none rfl) ?_
        have xo : a.eval (.tmp 0) = (.pointer (some ⟨q, 0, none⟩)) := ev_of (hout 0 (by intro i hi; show (if i < 28 then 12 + i else i - 24) ≠ 0; split <;> omega))
        refine wp_move rfl ?_
        rw [xo]
        exact hK _ rfl
      | 10 =>
        have ho' := Option.some.inj ho
        subst ho'
        have t9 : a.tmps[21]? = some (.pointer (some ⟨q, 0, none⟩)) := hin ⟨9, .data⟩ (by simp) rfl
        have x9 : a.eval (.tmp 21) = (.pointer (some ⟨q, 0, none⟩)) := ev_of t9
        refine wpOp_on rfl (wanted_none rfl) ?_
        exact wp_nil _ rfl x9 (hK _ rfl)
      | 11 =>
        have ho' := Option.some.inj ho
        subst ho'
        have t10 : a.tmps[22]? = some (.pointer (some ⟨q, 0, none⟩)) := hin ⟨10, .data⟩ (by simp) rfl
        have x10 : a.eval (.tmp 22) = (.pointer (some ⟨q, 0, none⟩)) := ev_of t10
        refine wpOp_on rfl (wanted_none rfl) ?_
        refine wp_field (v := (.pointer (some ⟨q, 0, none⟩))) rfl ?_ (hK _ rfl)
        rw [x10]
        go_simp
      | 12 =>
        have ho' := Option.some.inj ho
        subst ho'
        have t11 : a.tmps[23]? = some (.pointer (some ⟨q, 0, none⟩)) := hin ⟨11, .data⟩ (by simp) rfl
        have x11 : a.eval (.tmp 23) = (.pointer (some ⟨q, 0, none⟩)) := ev_of t11
        refine wpOp_on rfl (wanted_none rfl) ?_
        have hw1 := hw (by omega)
        subst hw1
        refine wp_load (v := (.slice (some ⟨g, o, none⟩) N c)) rfl ?_ (hK _ rfl)
        rw [x11]
        go_simp
      | 13 =>
        have ho' := Option.some.inj ho
        subst ho'
        refine wpOp_on rfl (wanted_none rfl) ?_
        have xo : a.eval (.tmp 6) = (.int .i64 (i : Int)) := ev_of (hout 6 (by intro i hi; show (if i < 28 then 12 + i else i - 24) ≠ 6; split <;> omega))
        refine wp_move rfl ?_
        rw [xo]
        exact hK _ rfl
      | 14 =>
        have ho' := Option.some.inj ho
        subst ho'
        have t12 : a.tmps[24]? = some (.slice (some ⟨g, o, none⟩) N c) := hin ⟨12, .data⟩ (by simp) rfl
        have x12 : a.eval (.tmp 24) = (.slice (some ⟨g, o, none⟩) N c) := ev_of t12
        have t13 : a.tmps[25]? = some (.int .i64 (i : Int)) := hin ⟨13, .data⟩ (by simp) rfl
        have x13 : a.eval (.tmp 25) = (.int .i64 (i : Int)) := ev_of t13
        refine wpOp_on rfl (wanted_none rfl) ?_
        refine wp_index (v := (.pointer (some ⟨g, o + i * 4, none⟩))) rfl ?_ (hK _ rfl)
        rw [x12, x13]
        exact IX _
      | 15 =>
        have ho' := Option.some.inj ho
        subst ho'
        have t14 : a.tmps[26]? = some (.pointer (some ⟨g, o + i * 4, none⟩)) := hin ⟨14, .data⟩ (by simp) rfl
        have x14 : a.eval (.tmp 26) = (.pointer (some ⟨g, o + i * 4, none⟩)) := ev_of t14
        refine wpOp_on rfl (wanted_none rfl) ?_
        refine wp_field (v := (.pointer (some ⟨g, o + i * 4 + 2, none⟩))) rfl ?_ (hK _ rfl)
        rw [x14]
        go_simp
      | 16 =>
        have ho' := Option.some.inj ho
        subst ho'
        have t15 : a.tmps[27]? = some (.pointer (some ⟨g, o + i * 4 + 2, none⟩)) := hin ⟨15, .data⟩ (by simp) rfl
        have x15 : a.eval (.tmp 27) = (.pointer (some ⟨g, o + i * 4 + 2, none⟩)) := ev_of t15
        refine wpOp_on rfl (wanted_none rfl) ?_
        have hw1 := hw (by omega)
        subst hw1
        refine wp_load (v := (.int .i64 p.tt)) rfl ?_ (hK _ rfl)
        rw [x15]
        go_simp
      | 17 =>
        have ho' := Option.some.inj ho
        subst ho'
        refine wpOp_on rfl (wanted_none rfl) ?_
        have xo : a.eval (.tmp 0) = (.pointer (some ⟨q, 0, none⟩)) := ev_of (hout 0 (by intro i hi; show (if i < 28 then 12 + i else i - 24) ≠ 0; split <;> omega))
        refine wp_move rfl ?_
        rw [xo]
        exact hK _ rfl
      | 18 =>
        have ho' := Option.some.inj ho
        subst ho'
        have t17 : a.tmps[29]? = some (.pointer (some ⟨q, 0, none⟩)) := hin ⟨17, .data⟩ (by simp) rfl
        have x17 : a.eval (.tmp 29) = (.pointer (some ⟨q, 0, none⟩)) := ev_of t17
        refine wpOp_on rfl (wanted_none rfl) ?_
        exact wp_nil _ rfl x17 (hK _ rfl)
      | 19 =>
        have ho' := Option.some.inj ho
        subst ho'
        have t18 : a.tmps[30]? = some (.pointer (some ⟨q, 0, none⟩)) := hin ⟨18, .data⟩ (by simp) rfl
        have x18 : a.eval (.tmp 30) = (.pointer (some ⟨q, 0, none⟩)) := ev_of t18
        refine wpOp_on rfl (wanted_none rfl) ?_
        refine wp_field (v := (.pointer (some ⟨q, 0, none⟩))) rfl ?_ (hK _ rfl)
        rw [x18]
        go_simp
      | 20 =>
        have ho' := Option.some.inj ho
        subst ho'
        have t19 : a.tmps[31]? = some (.pointer (some ⟨q, 0, none⟩)) := hin ⟨19, .data⟩ (by simp) rfl
        have x19 : a.eval (.tmp 31) = (.pointer (some ⟨q, 0, none⟩)) := ev_of t19
        refine wpOp_on rfl (wanted_none rfl) ?_
        have hw1 := hw (by omega)
        subst hw1
        refine wp_load (v := (.slice (some ⟨g, o, none⟩) N c)) rfl ?_ (hK _ rfl)
        rw [x19]
        go_simp
      | 21 =>
        have ho' := Option.some.inj ho
        subst ho'
        refine wpOp_on rfl (wanted_none rfl) ?_
        have xo : a.eval (.tmp 6) = (.int .i64 (i : Int)) := ev_of (hout 6 (by intro i hi; show (if i < 28 then 12 + i else i - 24) ≠ 6; split <;> omega))
        refine wp_move rfl ?_
        rw [xo]
        exact hK _ rfl
      | 22 =>
        have ho' := Option.some.inj ho
        subst ho'
        have t20 : a.tmps[32]? = some (.slice (some ⟨g, o, none⟩) N c) := hin ⟨20, .data⟩ (by simp) rfl
        have x20 : a.eval (.tmp 32) = (.slice (some ⟨g, o, none⟩) N c) := ev_of t20
        have t21 : a.tmps[33]? = some (.int .i64 (i : Int)) := hin ⟨21, .data⟩ (by simp) rfl
        have x21 : a.eval (.tmp 33) = (.int .i64 (i : Int)) := ev_of t21
        refine wpOp_on rfl (wanted_none rfl) ?_
        refine wp_index (v := (.pointer (some ⟨g, o + i * 4, none⟩))) rfl ?_ (hK _ rfl)
        rw [x20, x21]
        exact IX _
      | 23 =>
        have ho' := Option.some.inj ho
        subst ho'
        have t22 : a.tmps[34]? = some (.pointer (some ⟨g, o + i * 4, none⟩)) := hin ⟨22, .data⟩ (by simp) rfl
        have x22 : a.eval (.tmp 34) = (.pointer (some ⟨g, o + i * 4, none⟩)) := ev_of t22
        refine wpOp_on rfl (wanted_none rfl) ?_
        refine wp_field (v := (.pointer (some ⟨g, o + i * 4 + 3, none⟩))) rfl ?_ (hK _ rfl)
        rw [x22]
        go_simp
      | 24 =>
        have ho' := Option.some.inj ho
        subst ho'
        have t23 : a.tmps[35]? = some (.pointer (some ⟨g, o + i * 4 + 3, none⟩)) := hin ⟨23, .data⟩ (by simp) rfl
        have x23 : a.eval (.tmp 35) = (.pointer (some ⟨g, o + i * 4 + 3, none⟩)) := ev_of t23
        refine wpOp_on rfl (wanted_none rfl) ?_
        have hw1 := hw (by omega)
        subst hw1
        refine wp_load (v := (.string p.body)) rfl ?_ (hK _ rfl)
        rw [x23]
        go_simp
      | 25 =>
        have ho' := Option.some.inj ho
        subst ho'
        have t0 : a.tmps[12]? = some (.pointer (some ⟨q, 0, none⟩)) := hin ⟨0, .data⟩ (by simp) rfl
        have x0 : a.eval (.tmp 12) = (.pointer (some ⟨q, 0, none⟩)) := ev_of t0
        have t8 : a.tmps[20]? = some (.int .i64 p.fm) := hin ⟨8, .data⟩ (by simp) rfl
        have x8 : a.eval (.tmp 20) = (.int .i64 p.fm) := ev_of t8
        have t16 : a.tmps[28]? = some (.int .i64 p.tt) := hin ⟨16, .data⟩ (by simp) rfl
        have x16 : a.eval (.tmp 28) = (.int .i64 p.tt) := ev_of t16
        have t24 : a.tmps[36]? = some (.string p.body) := hin ⟨24, .data⟩ (by simp) rfl
        have x24 : a.eval (.tmp 36) = (.string p.body) := ev_of t24
        refine wpOp_on rfl (wanted_none rfl) ?_
        have hw1 := hw (by omega)
        subst hw1
        have s0 : a.tmps[12]? = some (.pointer (some ⟨q, 0, none⟩)) := t0
        have s8 : a.tmps[20]? = some (.int .i64 p.fm) := t8
        have s16 : a.tmps[28]? = some (.int .i64 p.tt) := t16
        have s24 : a.tmps[36]? = some (.string p.body) := t24
        refine wp_callf rfl (f := 10) (args := #[(.pointer (some ⟨q, 0, none⟩)), .int .i64 p.fm, .int .i64 p.tt, .string p.body]) ?_ SD ?_
        · simp only [resolve, invoke]; go_simp
        · rintro e w' ⟨rfl, hL⟩; exact ⟨_, rfl, hK _ hL⟩
      | 26 =>
        have ho' := Option.some.inj ho
        subst ho'
        have t25 : a.tmps[37]? = some (.tuple #[.int .i64 X, .int .i64 Y]) := hin ⟨25, .data⟩ (by simp) rfl
        have x25 : a.eval (.tmp 37) = (.tuple #[.int .i64 X, .int .i64 Y]) := ev_of t25
        refine wpOp_on rfl (wanted_none rfl) ?_
        refine wp_extract (v := (.int .i64 X)) rfl ?_ (hK _ rfl)
        rw [x25]
        go_simp
      | 27 =>
        have ho' := Option.some.inj ho
        subst ho'
        have t25 : a.tmps[37]? = some (.tuple #[.int .i64 X, .int .i64 Y]) := hin ⟨25, .data⟩ (by simp) rfl
        have x25 : a.eval (.tmp 37) = (.tuple #[.int .i64 X, .int .i64 Y]) := ev_of t25
        refine wpOp_on rfl (wanted_none rfl) ?_
        refine wp_extract (v := (.int .i64 Y)) rfl ?_ (hK _ rfl)
        rw [x25]
        go_simp
      | 28 =>
        have ho' := Option.some.inj ho
        subst ho'
        have t26 : a.tmps[38]? = some (.int .i64 X) := hin ⟨26, .data⟩ (by simp) rfl
        have x26 : a.eval (.tmp 38) = (.int .i64 X) := ev_of t26
        refine wpOp_on rfl (wanted_none rfl) ?_
        refine wp_assign rfl ?_
        rw [x26]
        exact hK _ rfl
      | 29 =>
        have ho' := Option.some.inj ho
        subst ho'
        have t27 : a.tmps[39]? = some (.int .i64 Y) := hin ⟨27, .data⟩ (by simp) rfl
        have x27 : a.eval (.tmp 39) = (.int .i64 Y) := ev_of t27
        refine wpOp_on rfl (wanted_none rfl) ?_
        refine wp_assign rfl ?_
        rw [x27]
        exact hK _ rfl
      | k + 30 => exact absurd (Array.getElem?_eq_some_iff.1 ho).1 (by simp)
    · intro a w1 hdf hsz hC hout hin
      have r4 : a.tmps[4]? = some (.int .i64 X) := hin 28 (by omega)
      have r5 : a.tmps[5]? = some (.int .i64 Y) := hin 29 (by omega)
      have g4 : a.tmps.getD 4 undef = .int .i64 X := by rw [Array.getD_eq_getD_getElem?, r4]; rfl
      have g5 : a.tmps.getD 5 undef = .int .i64 Y := by rw [Array.getD_eq_getD_getElem?, r5]; rfl
      refine (‹∀ (a : Act) (w : World), Code.wp Try.prog Code.ret _ a w → _› a w1 ?_)
      refine wp_ret ?_
      change bodyPost Try.prog Try.f18 _ Exit.ret a w1
      refine bodyPost_ret (results_tmp2 (fn := Try.f18) (t := 4) (u := 5) rfl a.tmps _ _) hdf ?_
      rw [g4, g5]
      exact ⟨rfl, RLeft.late hC (grown_drew (grown_refl _ none))⟩
end Go.Proofs.Ytffbaomaiohdiaa
