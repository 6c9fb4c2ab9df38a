/- One operation, whatever the act: its operands by their values. -/
import Derived.Test.YtijgekdhjfbgkaaWInv
namespace Go.Proofs.Ytijgekdhjfbgkaa
open Go.RowKit
set_option linter.unusedVariables false
section
variable {P : Program} {o : Oper} {a : Act} {w : World} {K : Act → World → Prop} {Q : Exit → Act → World → Prop}
theorem wp_val (v : Value) (w' : World) (h : (execOp a.eval o).run P w = .ok (.value v) w') (hK : K (a.put o.dst v) w') : o.wp P a w K Q := by
  unfold Oper.wp
  rw [h]
  exact hK
theorem wp_move {x : Operand} (ho : o.op = .move x) (hK : K (a.put o.dst (a.eval x)) w) : o.wp P a w K Q := by
  refine wp_val _ _ ?_ hK
  unfold execOp
  simp only [ho]
  rfl
theorem wp_nil {x : Operand} (p : Addr) (ho : o.op = .nilCheck x) (hx : a.eval x = .pointer (some p)) (hK : K (a.put o.dst (.pointer (some p))) w) : o.wp P a w K Q := by
  refine wp_val _ _ ?_ hK
  unfold execOp
  simp only [ho, hx]
  go_simp
theorem wp_field {t : TypeId} {x : Operand} {k : Nat} {v : Value} (ho : o.op = .fieldAddr t x k) (hr : (Instr.fieldAt t (a.eval x) k).run P w = .ok v w) (hK : K (a.put o.dst v) w) : o.wp P a w K Q := by
  refine wp_val _ _ ?_ hK
  unfold execOp
  simp only [ho]
  simp [hr]
theorem wp_load {t : TypeId} {x : Operand} {v : Value} (ho : o.op = .load t x) (hr : (Instr.loadAt t (a.eval x)).run P w = .ok v w) (hK : K (a.put o.dst v) w) : o.wp P a w K Q := by
  refine wp_val _ _ ?_ hK
  unfold execOp
  simp only [ho]
  simp [hr]
theorem wp_bin {op : BinOp} {t u : TypeId} {x y : Operand} {v : Value} (ho : o.op = .binOp op t x y u) (hg : (eqGuard op t x y (a.eval x) (a.eval y)).run P w = .ok () w) (hr : (binOp op t (a.eval x) (a.eval y)).run P w = .ok v w) (hK : K (a.put o.dst v) w) : o.wp P a w K Q := by
  refine wp_val _ _ ?_ hK
  unfold execOp
  simp only [ho]
  simp [hg, hr]
theorem wp_un {op : UnOp} {t : TypeId} {x : Operand} {v : Value} (ho : o.op = .unOp op t x) (hr : (Op.unary op (a.eval x)).run P w = .ok v w) (hK : K (a.put o.dst v) w) : o.wp P a w K Q := by
  refine wp_val _ _ ?_ hK
  unfold execOp
  simp only [ho]
  simp [hr]
theorem wp_pick {c x y : Operand} (b : Bool) (ho : o.op = .pick c x y) (hc : a.eval c = .bool b) (hK : K (a.put o.dst (if b = true then a.eval x else a.eval y)) w) : o.wp P a w K Q := by
  refine wp_val _ _ ?_ hK
  unfold execOp
  simp only [ho, hc]
  go_simp
theorem wp_call {f : FuncId} {args : Array Value} {C : Ending → World → Prop} (hr : (execOp a.eval o).run P w = .ok (.enter f args) w) (hc : Calls P f args w C) (hK : ∀ e w', C e w' → ∃ v, e = .returned v ∧ K (a.put o.dst v) w') : o.wp P a w K Q := by
  unfold Oper.wp
  rw [hr, Oper.upon_enter]
  refine hc.mono fun e w' h => ?_
  obtain ⟨v, rfl, hk⟩ := hK e w' h
  exact hk
theorem wp_callf {f : FuncId} {c : Call} {args : Array Value} {C : Ending → World → Prop} (ho : o.op = .call c) (hr : (do let d ← resolve a.eval c o.type; invoke d.target d.args : Sem Next).run P w = .ok (.enter f args) w) (hc : Calls P f args w C) (hK : ∀ e w', C e w' → ∃ v, e = .returned v ∧ K (a.put o.dst v) w') : o.wp P a w K Q := by
  refine wp_call ?_ hc hK
  unfold execOp
  simp only [ho]
  exact hr
end
section
variable {P : Program} {ops : Array Oper} {o : Oper} {a : Act} {w : World} {K : Act → World → Prop} {Q : Exit → Act → World → Prop}
theorem wpOp_on {i : Nat} (ho : ops[i]? = some o) (hw : Region.wanted o (yielded ops a.tmps) = true) (h : o.wp P a w K Q) : wpOp P ops Q i K a w := by
  unfold wpOp
  rw [ho]
  simp only
  rw [if_pos hw]
  exact .inl h
theorem wanted_none {y : Nat → Option Bool} (hg : o.guard = none) : Region.wanted o y = true := by
  unfold Region.wanted
  rw [hg]
theorem wanted_some {y : Nat → Option Bool} {j : Nat} {b : Bool} (hg : o.guard = some (j, b)) (hy : y j = some b) : Region.wanted o y = true := by
  unfold Region.wanted
  rw [hg]
  simp [hy]
theorem yielded_of {j d : Nat} {b : Bool} {t : Array Value} (hd : (ops[j]?).bind (·.dst) = some d) (ht : t[d]? = some (.bool b)) : yielded ops t j = some b := by
  unfold yielded
  rw [hd]
  simp [ht]
end
/-- What a region's act is at any time: the slots outside as they were; those of what is listed hold what they should. -/
structure Good (m n : Nat) (t0 : Array Value) (G : Nat → Value → World → Prop) (w0 : World) (listed : Array Bool) (a : Act) (w : World) : Prop where
  df : a.defers = []
  sz : a.tmps.size = t0.size
  out : ∀ k, (k < m ∨ m + n ≤ k) → a.tmps[k]? = t0[k]?
  val : ∀ i, i < n → listed.getD i false = true → ∃ v, a.tmps[m + i]? = some v ∧ G i v w
  gr : w0.grownBy w none
theorem Good.put {m n : Nat} {t0 : Array Value} {G : Nat → Value → World → Prop} {w0 : World} {listed : Array Bool} {a : Act} {w w' : World} (h : Good m n t0 G w0 listed a w) {i : Nat} (hi : i < n) (hz : m + n ≤ t0.size) (v : Value) (hv : G i v w') (g : w.grownBy w' none) (mono : ∀ i v, G i v w → G i v w') : Good m n t0 G w0 (listed.setIfInBounds i true) (a.put (some (m + i)) v) w' := by
  refine ⟨h.df, by simp [Act.put, h.sz], fun k hk => ?_, fun j hj hl => ?_, ?_⟩
  · rw [← h.out k hk]
    simp only [Act.put]
    rw [Array.getElem?_setIfInBounds]
    rw [if_neg (by omega)]
  · by_cases e : j = i
    · subst e
      refine ⟨v, ?_, hv⟩
      simp only [Act.put]
      rw [Array.getElem?_setIfInBounds, if_pos rfl, if_pos (by rw [h.sz]; omega)]
    · have hl' : listed.getD j false = true := by
        rw [Array.getD_eq_getD_getElem?] at hl ⊢
        rw [Array.getElem?_setIfInBounds, if_neg (by omega)] at hl
        exact hl
      obtain ⟨u, hu, hg⟩ := h.val j hj hl'
      refine ⟨u, ?_, mono _ _ hg⟩
      simp only [Act.put]
      rw [Array.getElem?_setIfInBounds, if_neg (by omega)]
      exact hu
  · exact ⟨g.os.trans h.gr.os, g.tape.trans h.gr.tape, g.output.trans h.gr.output, Nat.le_trans h.gr.size g.size, fun k hk hn => by
      rw [g.block k (Nat.lt_of_lt_of_le hk h.gr.size) hn]
      exact h.gr.block k hk hn⟩
/-- A region that draws its order, operation by operation: each is met once, whatever has come up ahead of it. -/
theorem wp_region_each {P : Program} {id : Nat} {ops : Array Oper} {Q : Exit → Act → World → Prop} {a0 : Act} {w : World} (m n : Nat) (hm : P.follows .mixedOrders = true) (hn : ops.size = n) (hz : m + n ≤ a0.tmps.size) (hd0 : a0.defers = [])
    (back : ∀ i o, ops[i]? = some o → ∀ e ∈ o.after, Region.binds .any e = true → e.on < i)
    (G : Nat → Value → World → Prop) (mono : ∀ i v w w', w.grownBy w' none → G i v w → G i v w')
    (step : ∀ i o, ops[i]? = some o → ∀ a w1, w.drew.grownBy w1 none → (∀ k, (k < m ∨ m + n ≤ k) → a.tmps[k]? = a0.tmps[k]?) → (∀ e ∈ o.after, Region.binds .any e = true → ∃ v, a.tmps[m + e.on]? = some v ∧ G e.on v w1) →
      ∀ K : Act → World → Prop, (∀ v w', G i v w' → w1.grownBy w' none → K (a.put (some (m + i)) v) w') → wpOp P ops Q i K a w1)
    (fin : ∀ a w1, a.defers = [] → a.tmps.size = a0.tmps.size → w.drew.grownBy w1 none → (∀ k, (k < m ∨ m + n ≤ k) → a.tmps[k]? = a0.tmps[k]?) → (∀ i, i < n → ∃ v, a.tmps[m + i]? = some v ∧ G i v w1) → Q .normal a w1) : (Code.region id ops true).wp P Q a0 w := by
  have rdy : ∀ listed i, i ∈ Region.ready .any ops listed → ∃ o, ops[i]? = some o ∧ i < n ∧ ∀ e ∈ o.after, Region.binds .any e = true → listed.getD e.on false = true := by
    intro listed i hi
    unfold Region.ready at hi
    rw [List.mem_filter] at hi
    obtain ⟨h1, h2⟩ := hi
    have h1' : i < ops.size := by simpa using h1
    have ho : ops[i]? = some ops[i] := by simp [h1']
    rw [ho] at h2
    simp only [Bool.and_eq_true, Option.map_some, Option.getD_some] at h2
    refine ⟨ops[i], ho, by omega, fun e he hb => ?_⟩
    have h3 := h2.2
    rw [Array.all_eq_true_iff_forall_mem] at h3
    have h4 := h3 e he
    rw [hb] at h4
    simpa using h4
  refine wp_region_inv hm (Good m n a0.tmps G w.drew) ⟨hd0, rfl, fun _ _ => rfl, fun i hi hl => ?_, grown_refl _ _⟩ ?_ ?_
  · rw [Array.getD_eq_getD_getElem?, Array.getElem?_replicate] at hl
    split at hl <;> simp at hl
  · intro listed a w1 hs h i hi
    obtain ⟨o, ho, hin, hl⟩ := rdy listed i hi
    exact step i o ho a w1 h.gr h.out (fun e he hb => h.val e.on (by have := back i o ho e he hb; omega) (hl e he hb)) _ fun v w' hv g => h.put hin hz v hv g fun i v => mono i v w1 w' g
  · intro listed a w1 hs h hr
    have all : ∀ k i, i ≤ k → i < n → listed.getD i false = true := by
      intro k
      induction k with
      | zero =>
        intro i hi hin
        have e0 : i = 0 := by omega
        cases c : listed.getD i false with
        | true => rfl
        | false =>
          exfalso
          have hmem : i ∈ Region.ready .any ops listed := by
            unfold Region.ready
            rw [List.mem_filter]
            have h1' : i < ops.size := by omega
            have ho : ops[i]? = some ops[i] := by simp [h1']
            refine ⟨by simpa using h1', ?_⟩
            rw [ho]
            simp only [Bool.and_eq_true, Option.map_some, Option.getD_some]
            refine ⟨?_, ?_⟩
            · have h2 : i < listed.size := by omega
              have : listed[i] = false := by simpa [Array.getD, h2] using c
              simp [Array.getD, h2, this]
            · rw [Array.all_eq_true_iff_forall_mem]
              intro e he
              cases hb : Region.binds .any e with
              | false => rfl
              | true => have := back i _ ho e he hb; omega
          rw [hr] at hmem
          cases hmem
      | succ k ih =>
        intro i hi hin
        by_cases hik : i ≤ k
        · exact ih i hik hin
        · cases c : listed.getD i false with
          | true => rfl
          | false =>
            exfalso
            have hmem : i ∈ Region.ready .any ops listed := by
              unfold Region.ready
              rw [List.mem_filter]
              have h1' : i < ops.size := by omega
              have ho : ops[i]? = some ops[i] := by simp [h1']
              refine ⟨by simpa using h1', ?_⟩
              rw [ho]
              simp only [Bool.and_eq_true, Option.map_some, Option.getD_some]
              refine ⟨?_, ?_⟩
              · have h2 : i < listed.size := by omega
                have : listed[i] = false := by simpa [Array.getD, h2] using c
                simp [Array.getD, h2, this]
              · rw [Array.all_eq_true_iff_forall_mem]
                intro e he
                cases hb : Region.binds .any e with
                | false => rfl
                | true =>
                  have hlt := back i _ ho e he hb
                  rw [ih e.on (by omega) (by omega)]
                  rfl
            rw [hr] at hmem
            cases hmem
    exact fin a w1 h.df h.sz h.gr h.out fun i hi => h.val i hi (all i i (Nat.le_refl _) hi)
def backB (ops : Array Oper) : Bool := (List.range ops.size).all fun i => ((ops[i]?).map fun o => o.after.all fun e => decide (e.on < i)).getD true
theorem back_of {ops : Array Oper} (h : backB ops = true) : ∀ i o, ops[i]? = some o → ∀ e ∈ o.after, Region.binds .any e = true → e.on < i := by
  intro i o ho e he _
  unfold backB at h
  rw [List.all_eq_true] at h
  have hi : i < ops.size := (Array.getElem?_eq_some_iff.1 ho).1
  have h1 := h i (by simpa using hi)
  rw [ho] at h1
  simp only [Option.map_some, Option.getD_some] at h1
  rw [Array.all_eq_true_iff_forall_mem] at h1
  simpa using h1 e he
theorem ev_of {a : Act} {k : Nat} {v : Value} (h : a.tmps[k]? = some v) : a.eval (.tmp k) = v := by
  unfold Act.eval
  simp only
  rw [Array.getD_eq_getD_getElem?, h]
  rfl
def setMany : Array Value → Nat → List Value → Array Value
  | t, _, [] => t
  | t, m, v :: vs => setMany (t.setIfInBounds m v) (m + 1) vs
theorem setMany_size : ∀ (vs : List Value) (t : Array Value) (m : Nat), (setMany t m vs).size = t.size
  | [], _, _ => rfl
  | v :: vs, t, m => by rw [setMany, setMany_size vs]; simp
theorem setMany_out : ∀ (vs : List Value) (t : Array Value) (m k : Nat), (k < m ∨ m + vs.length ≤ k) → (setMany t m vs)[k]? = t[k]?
  | [], _, _, _, _ => rfl
  | v :: vs, t, m, k, h => by
    rw [setMany, setMany_out vs _ (m + 1) k (by simp at h; omega), Array.getElem?_setIfInBounds, if_neg (by simp at h; omega)]
theorem setMany_in : ∀ (vs : List Value) (t : Array Value) (m i : Nat), i < vs.length → m + vs.length ≤ t.size → (setMany t m vs)[m + i]? = vs[i]?
  | [], _, _, _, h, _ => by simp at h
  | v :: vs, t, m, 0, h, hz => by
    rw [setMany, setMany_out vs _ (m + 1) (m + 0) (by omega), Array.getElem?_setIfInBounds, if_pos (by omega), if_pos (by simp at hz; omega)]
    rfl
  | v :: vs, t, m, i + 1, h, hz => by
    rw [setMany, show m + (i + 1) = m + 1 + i by omega, setMany_in vs _ (m + 1) i (by simpa using h) (by simp at hz ⊢; omega)]
    rfl
theorem act_eq {a : Act} {t0 : Array Value} {m n : Nat} (vs : List Value) (hn : vs.length = n) (hz : m + n ≤ t0.size) (hd : a.defers = []) (hs : a.tmps.size = t0.size) (hout : ∀ k, (k < m ∨ m + n ≤ k) → a.tmps[k]? = t0[k]?) (hv : ∀ i, i < n → a.tmps[m + i]? = vs[i]?) : a = ⟨setMany t0 m vs, []⟩ := by
  obtain ⟨t, d⟩ := a
  simp only at hd hs hout hv
  subst hd
  congr 1
  apply Array.ext_getElem?
  intro k
  by_cases h : k < m ∨ m + n ≤ k
  · rw [hout k h, setMany_out vs t0 m k (by omega)]
  · obtain ⟨i, rfl⟩ : ∃ i, k = m + i := ⟨k - m, by omega⟩
    rw [hv i (by omega), setMany_in vs t0 m i (by omega) (by omega)]
end Go.Proofs.Ytijgekdhjfbgkaa
