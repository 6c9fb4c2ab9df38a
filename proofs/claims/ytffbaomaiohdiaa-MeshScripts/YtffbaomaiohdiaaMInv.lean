/- A region that draws its order: what is still, then one call, then what looks at no world; each operation is met once. -/
import Derived.Test.YtffbaomaiohdiaaMBase
namespace Go.Proofs.Ytffbaomaiohdiaa
open Go.RowKit
set_option linter.unusedVariables false

/-- How many are not yet listed. -/
def left (l : Array Bool) : Nat := (l.toList.filter fun b => !b).length
theorem left_set : ∀ (l : List Bool) (i : Nat), l[i]? = some false → ((l.set i true).filter fun b => !b).length + 1 = (l.filter fun b => !b).length
  | [], _, h => by simp at h
  | b :: l, 0, h => by simp at h; subst h; simp
  | b :: l, i + 1, h => by
    have := left_set l i (by simpa using h)
    cases b <;> simp <;> omega
theorem wpOp_more {P : Program} {ops : Array Oper} {Q : Exit → Act → World → Prop} {i : Nat} {K K' : Act → World → Prop} {a : Act} {w : World} (h : wpOp P ops Q i K a w) (hK : ∀ a w, K a w → K' a w) : wpOp P ops Q i K' a w := by
  unfold wpOp at h ⊢
  split
  · next e => rw [e] at h; exact hK _ _ h
  · next o e =>
    rw [e] at h
    simp only at h ⊢
    split
    · next c =>
      rw [if_pos c] at h
      exact h.imp (fun h => Oper.wp_mono hK h) id
    · next c =>
      rw [if_neg c] at h
      exact hK _ _ h
theorem wpAny_inv {P : Program} {md : Region.Mode} {ops : Array Oper} {Q : Exit → Act → World → Prop} (Inv : Array Bool → Act → World → Prop)
    (step : ∀ listed a w, listed.size = ops.size → Inv listed a w → ∀ i ∈ Region.ready md ops listed, wpOp P ops Q i (Inv (listed.setIfInBounds i true)) a w)
    (fin : ∀ listed a w, listed.size = ops.size → Inv listed a w → Region.ready md ops listed = [] → Q .normal a w) :
    ∀ (fuel : Nat) (listed : Array Bool) (a : Act) (w : World), listed.size = ops.size → left listed ≤ fuel → Inv listed a w → wpAny P md ops Q fuel listed a w
  | 0, listed, a, w, hs, hl, h => by
    have hr : Region.ready md ops listed = [] := by
      unfold Region.ready
      rw [List.filter_eq_nil_iff]
      intro i hi c
      simp only [Bool.and_eq_true, Bool.not_eq_true'] at c
      have hi' : i < listed.size := by rw [hs]; simpa using hi
      have c1 := c.1
      have hf : false ∈ listed.toList.filter fun b => !b := by
        rw [List.mem_filter]
        refine ⟨?_, rfl⟩
        have : listed[i] = false := by simpa [Array.getD, hi'] using c1
        rw [← this]
        simp
      unfold left at hl
      have := List.length_pos_of_mem hf
      omega
    exact ⟨hr, fin _ _ _ hs h hr⟩
  | fuel + 1, listed, a, w, hs, hl, h => by
    refine ⟨fun hr => fin _ _ _ hs h hr, fun i hi => wpOp_more (step _ _ _ hs h i hi) fun a' w' h' => ?_⟩
    refine wpAny_inv Inv step fin fuel _ a' w' (by simpa using hs) ?_ h'
    unfold Region.ready at hi
    rw [List.mem_filter] at hi
    simp only [Bool.and_eq_true, Bool.not_eq_true'] at hi
    have hi' : i < listed.size := by rw [hs]; simpa using hi.1
    have : listed[i] = false := by simpa [Array.getD, hi'] using hi.2.1
    have e := left_set listed.toList i (by simp [hi', this])
    unfold left at hl ⊢
    rw [Array.toList_setIfInBounds]
    omega
theorem left_all (n : Nat) : left (Array.replicate n false) = n := by unfold left; simp
/-- .. the region. -/
theorem wp_region_inv {P : Program} {id : Nat} {ops : Array Oper} {Q : Exit → Act → World → Prop} {a : Act} {w : World} (hm : P.follows .mixedOrders = true) (Inv : Array Bool → Act → World → Prop)
    (start : Inv (Array.replicate ops.size false) a w.drew)
    (step : ∀ listed a w, listed.size = ops.size → Inv listed a w → ∀ i ∈ Region.ready .any ops listed, wpOp P ops Q i (Inv (listed.setIfInBounds i true)) a w)
    (fin : ∀ listed a w, listed.size = ops.size → Inv listed a w → Region.ready .any ops listed = [] → Q .normal a w) : (Code.region id ops true).wp P Q a w :=
  wp_region_any hm (wpAny_inv Inv step fin _ _ _ _ (by simp) (by rw [left_all]; exact Nat.le_refl _) start)
/-- What waits for what is listed. -/
theorem ready_of {ops : Array Oper} {listed : Array Bool} {i : Nat} (hi : i ∈ Region.ready .any ops listed) : ∃ o, ops[i]? = some o ∧ i < ops.size ∧ listed.getD i true = false ∧ ∀ e ∈ o.after, Region.binds .any e = true → listed.getD e.on false = true := by
  unfold Region.ready at hi
  rw [List.mem_filter] at hi
  obtain ⟨h1, h2⟩ := hi
  have h1' : i < ops.size := by simpa using h1
  have ho : ops[i]? = some ops[i] := by simp [h1']
  rw [ho] at h2
  simp only [Bool.and_eq_true, Option.map_some, Option.getD_some, Bool.not_eq_true'] at h2
  refine ⟨ops[i], ho, h1', h2.1, fun e he hb => ?_⟩
  have h3 := h2.2
  rw [Array.all_eq_true_iff_forall_mem] at h3
  have h4 := h3 e he
  rw [hb] at h4
  simpa using h4
theorem ready_in {ops : Array Oper} {listed : Array Bool} {i : Nat} {o : Oper} (ho : ops[i]? = some o) (hl : listed.getD i true = false) (ha : ∀ e ∈ o.after, Region.binds .any e = true → listed.getD e.on false = true) : i ∈ Region.ready .any ops listed := by
  unfold Region.ready
  rw [List.mem_filter]
  have h1' : i < ops.size := (Array.getElem?_eq_some_iff.1 ho).1
  refine ⟨by simpa using h1', ?_⟩
  rw [ho]
  simp only [Bool.and_eq_true, Option.map_some, Option.getD_some, Bool.not_eq_true']
  refine ⟨hl, ?_⟩
  rw [Array.all_eq_true_iff_forall_mem]
  intro e he
  cases hb : Region.binds .any e with
  | false => rfl
  | true => simpa using ha e he hb
theorem get_set {l : Array Bool} {i k : Nat} (h : i ≠ k) (d : Bool) : (l.setIfInBounds i true).getD k d = l.getD k d := by
  rw [Array.getD_eq_getD_getElem?, Array.getElem?_setIfInBounds, if_neg h, Array.getD_eq_getD_getElem?]
theorem get_set_same {l : Array Bool} {i : Nat} (h : i < l.size) (d : Bool) : (l.setIfInBounds i true).getD i d = true := by
  rw [Array.getD_eq_getD_getElem?, Array.getElem?_setIfInBounds, if_pos rfl, if_pos h]
  rfl
/-- The act and the world at any time. -/
structure Ph (ops : Array Oper) (n c : Nat) (d : Nat → Nat) (val : Nat → Value) (t0 : Array Value) (w0 : World) (C : World → Prop) (listed : Array Bool) (a : Act) (w : World) : Prop where
  df : a.defers = []
  sz : a.tmps.size = t0.size
  out : ∀ k, (∀ i, i < n → d i ≠ k) → a.tmps[k]? = t0[k]?
  vl : ∀ i, i < n → listed.getD i false = true → a.tmps[d i]? = some (val i)
  cl : ∀ i o, ops[i]? = some o → listed.getD i false = true → ∀ e ∈ o.after, Region.binds .any e = true → listed.getD e.on false = true
  w0 : listed.getD c false = false → w = w0
  w1 : listed.getD c false = true → C w
theorem Ph.put {ops : Array Oper} {n c : Nat} {d : Nat → Nat} {val : Nat → Value} {t0 : Array Value} {w0 : World} {C : World → Prop} {listed : Array Bool} {a : Act} {w w' : World} (h : Ph ops n c d val t0 w0 C listed a w) (hs : listed.size = n) {i : Nat} (hi : i < n) (hz : ∀ i, i < n → d i < t0.size) (inj : ∀ i j, i < n → j < n → d i = d j → i = j) {o : Oper} (ho : ops[i]? = some o) (ha : ∀ e ∈ o.after, Region.binds .any e = true → listed.getD e.on false = true)
    (hw : if i = c then C w' else w' = w) : Ph ops n c d val t0 w0 C (listed.setIfInBounds i true) (a.put (some (d i)) (val i)) w' := by
  refine ⟨h.df, by simp [Act.put, h.sz], fun k hk => ?_, fun j hj hl => ?_, fun j oj hoj hl e he hb => ?_, fun hc => ?_, fun hc => ?_⟩
  · rw [← h.out k hk]
    simp only [Act.put]
    rw [Array.getElem?_setIfInBounds, if_neg (hk i hi)]
  · by_cases e : j = i
    · subst e
      simp only [Act.put]
      rw [Array.getElem?_setIfInBounds, if_pos rfl, if_pos (by rw [h.sz]; exact hz j hj)]
    · rw [get_set (fun c => e c.symm)] at hl
      simp only [Act.put]
      rw [Array.getElem?_setIfInBounds, if_neg (fun c => e (inj i j hi hj c).symm)]
      exact h.vl j hj hl
  · have key : listed.getD e.on false = true := by
      by_cases ej : j = i
      · subst ej
        have : oj = o := Option.some.inj (hoj.symm.trans ho)
        subst this
        exact ha e he hb
      · rw [get_set (fun c => ej c.symm)] at hl
        exact h.cl j oj hoj hl e he hb
    by_cases ei : i = e.on
    · rw [← ei] at key ⊢
      exact get_set_same (by rw [hs]; exact hi) _
    · rw [get_set ei]
      exact key
  · by_cases e : i = c
    · subst e
      rw [get_set_same (by rw [hs]; exact hi)] at hc
      cases hc
    · rw [get_set e] at hc
      rw [if_neg e] at hw
      rw [hw]
      exact h.w0 hc
  · by_cases e : i = c
    · rw [if_pos e] at hw
      exact hw
    · rw [get_set e] at hc
      rw [if_neg e] at hw
      rw [hw]
      exact h.w1 hc
/-- Each ahead of the call is waited for, up to the call; each behind it waits for it. -/
def sinks (ops : Array Oper) (c : Nat) : Bool := (List.range c).all fun i => (List.range (c + 1)).any fun j => decide (i < j) && (match ops[j]? with | some o => o.after.toList.any fun e => Region.binds .any e && decide (e.on = i) | none => false)
theorem all_ahead {ops : Array Oper} {n c : Nat} {d : Nat → Nat} {val : Nat → Value} {t0 : Array Value} {w0 : World} {C : World → Prop} {listed : Array Bool} {a : Act} {w : World} (h : Ph ops n c d val t0 w0 C listed a w) (hs : sinks ops c = true) (hc : listed.getD c false = true) : ∀ k i, c - i ≤ k → i ≤ c → listed.getD i false = true
  | 0, i, hk, hi => by
    have : i = c := by omega
    rw [this]; exact hc
  | k + 1, i, hk, hi => by
    by_cases e : i = c
    · rw [e]; exact hc
    · have h1 := List.all_eq_true.1 hs i (List.mem_range.2 (by omega))
      obtain ⟨j, hj, hj2⟩ := List.any_eq_true.1 h1
      simp only [Bool.and_eq_true, decide_eq_true_eq] at hj2
      have hjl : j ≤ c := by have := List.mem_range.1 hj; omega
      have ih := all_ahead h hs hc k j (by omega) hjl
      cases ho : ops[j]? with
      | none => rw [ho] at hj2; cases hj2.2
      | some o =>
        rw [ho] at hj2
        obtain ⟨x, hx, hx2⟩ := List.any_eq_true.1 hj2.2
        have hx : x ∈ o.after := by simpa using hx
        simp only [Bool.and_eq_true, decide_eq_true_eq] at hx2
        have := h.cl j o ho ih x hx hx2.1
        rw [hx2.2] at this
        exact this
/-- A region that draws its order: operation by operation. -/
theorem wp_region_phase {P : Program} {id : Nat} {ops : Array Oper} {Q : Exit → Act → World → Prop} {a0 : Act} {w : World} (n c : Nat) (d : Nat → Nat) (val : Nat → Value) (C : World → Prop) (hm : P.follows .mixedOrders = true) (hn : ops.size = n) (hc : c < n) (hz : ∀ i, i < n → d i < a0.tmps.size) (hd0 : a0.defers = [])
    (inj : ∀ i j, i < n → j < n → d i = d j → i = j) (hs : sinks ops c = true) (back : ∀ i o, ops[i]? = some o → ∀ e ∈ o.after, Region.binds .any e = true → e.on < i)
    (step : ∀ i o, ops[i]? = some o → ∀ a w1, (i ≤ c → w1 = w.drew) → (∀ k, (∀ i, i < n → d i ≠ k) → a.tmps[k]? = a0.tmps[k]?) → (∀ e ∈ o.after, Region.binds .any e = true → a.tmps[d e.on]? = some (val e.on)) →
      ∀ K : Act → World → Prop, (∀ w', (if i = c then C w' else w' = w1) → K (a.put (some (d i)) (val i)) w') → wpOp P ops Q i K a w1)
    (fin : ∀ a w1, a.defers = [] → a.tmps.size = a0.tmps.size → C w1 → (∀ k, (∀ i, i < n → d i ≠ k) → a.tmps[k]? = a0.tmps[k]?) → (∀ i, i < n → a.tmps[d i]? = some (val i)) → Q .normal a w1) : (Code.region id ops true).wp P Q a0 w := by
  have none0 : ∀ i, (Array.replicate ops.size false).getD i false = false := fun i => by
    rw [Array.getD_eq_getD_getElem?, Array.getElem?_replicate]
    split <;> rfl
  refine wp_region_inv hm (Ph ops n c d val a0.tmps w.drew C) ⟨hd0, rfl, fun _ _ => rfl, fun i hi hl => ?_, fun i o _ hl => ?_, fun _ => rfl, fun hl => ?_⟩ ?_ ?_
  · rw [none0] at hl; cases hl
  · rw [none0] at hl; cases hl
  · rw [none0] at hl; cases hl
  · intro listed a w1 hsz h i hi
    obtain ⟨o, ho, hin, hun, hl⟩ := ready_of hi
    have hin' : i < n := by omega
    have hun' : listed.getD i false = false := by
      rw [Array.getD_eq_getD_getElem?] at hun ⊢
      cases hx : listed[i]? with
      | none => rfl
      | some b => rw [hx] at hun; exact hun
    refine step i o ho a w1 (fun hic => h.w0 ?_) h.out (fun e he hb => h.vl e.on (by have := back i o ho e he hb; omega) (hl e he hb)) _ fun w' hw' => h.put (by rw [hsz, hn]) hin' hz inj ho hl hw'
    cases hcl : listed.getD c false with
    | false => rfl
    | true =>
      have := all_ahead h hs hcl _ i (Nat.le_refl _) hic
      rw [hun'] at this
      cases this
  · intro listed a w1 hsz h hr
    have all : ∀ i, i < n → listed.getD i false = true := by
      intro i
      induction i using Nat.strongRecOn with
      | _ i ih =>
        intro hi
        cases hx : listed.getD i false with
        | true => rfl
        | false =>
          exfalso
          have ho : ops[i]? = some (ops[i]'(by omega)) := by simp [show i < ops.size by omega]
          have hun : listed.getD i true = false := by
            have h2 : i < listed.size := by omega
            rw [Array.getD_eq_getD_getElem?] at hx ⊢
            rw [Array.getElem?_eq_getElem h2] at hx ⊢
            exact hx
          have := ready_in ho hun fun e he hb => ih e.on (back i _ ho e he hb) (by have := back i _ ho e he hb; omega)
          rw [hr] at this
          cases this
    exact fin a w1 h.df h.sz (h.w1 (all c hc)) h.out fun i hi => h.vl i hi (all i hi)
end Go.Proofs.Ytffbaomaiohdiaa
