/- What is cut, counted. A mesh beside a row of packets. -/
import Derived.Test.YtffbaomaiohdiaaMArgs
namespace Go.Proofs.Ytffbaomaiohdiaa
namespace Msh
/-- Is it between the two? -/
def bt (a b : Int) (p : Pk) : Bool := same (a, b) p.fm p.tt
theorem cut_one (a b x y : Int) : isCut [(a, b)] x y = same (a, b) x y := by unfold isCut; simp
theorem cutL_nil (a b : Int) : cutL [] a b = [(a, b)] := rfl
theorem join_one (a b : Int) : joinL [(a, b)] b a = [] := by
  unfold joinL
  rw [List.filter_cons_of_neg]
  · rfl
  · unfold same; simp
theorem erase_count {α : Type} {f : α → Bool} : ∀ {l : List α} {i : Nat} {p : α}, l[i]? = some p → f p = false → (l.eraseIdx i).countP f = l.countP f
  | [], i, p, h, _ => by simp at h
  | x :: r, 0, p, h, hf => by
    simp at h
    subst h
    rw [List.eraseIdx_cons_zero, List.countP_cons_of_neg (by simp [hf])]
  | x :: r, i + 1, p, h, hf => by
    simp at h
    rw [List.eraseIdx_cons_succ, List.countP_cons, List.countP_cons, erase_count h hf]
theorem nx_some {l : List Pk} {n : Nat} {a b : Int} (h : l.countP (bt a b) < l.length) : ∃ i p, l[i]? = some p ∧ bt a b p = false ∧ nxtB ⟨l, n, [(a, b)]⟩ = true ∧ nxtP ⟨l, n, [(a, b)]⟩ = p ∧ nxtS ⟨l, n, [(a, b)]⟩ = ⟨l.eraseIdx i, n, [(a, b)]⟩ ∧ (l.eraseIdx i).countP (bt a b) = l.countP (bt a b) ∧ (l.eraseIdx i).length + 1 = l.length := by
  cases hn : nxt ⟨l, n, [(a, b)]⟩ with
  | none =>
    have hall : l.countP (bt a b) = l.length := by
      rw [List.countP_eq_length]
      intro q hq
      have := (List.findIdx?_eq_none_iff.1 hn) q hq
      simp only [cut_one] at this
      show same (a, b) q.fm q.tt = true
      simpa using this
    omega
  | some i =>
    have hs := List.findIdx?_eq_some_iff_getElem.1 hn
    obtain ⟨hi, hc, _⟩ := hs
    have hp : l[i]? = some (l[i]'hi) := List.getElem?_eq_getElem hi
    have hb : bt a b (l[i]'hi) = false := by
      simp only [cut_one] at hc
      show same (a, b) _ _ = false
      simpa using hc
    refine ⟨i, l[i]'hi, hp, hb, ?_, ?_, ?_, erase_count hp hb, by have hi' : i < l.length := hi; rw [List.length_eraseIdx_of_lt hi']; omega⟩
    · unfold nxtB; rw [hn]; rfl
    · unfold nxtP; rw [hn]; exact at_is hp
    · unfold nxtS; rw [hn]; rfl
theorem nx_none {l : List Pk} {n : Nat} {a b : Int} (h : l.countP (bt a b) = l.length) : nxtB ⟨l, n, [(a, b)]⟩ = false ∧ nxtS ⟨l, n, [(a, b)]⟩ = ⟨l, n, [(a, b)]⟩ := by
  have hn : nxt ⟨l, n, [(a, b)]⟩ = none := by
    unfold nxt
    rw [List.findIdx?_eq_none_iff]
    intro q hq
    have := (List.countP_eq_length.1 h) q hq
    have : same (a, b) q.fm q.tt = true := this
    simp [cut_one, this]
  unfold nxtB nxtS
  rw [hn]
  exact ⟨rfl, rfl⟩
theorem nx_free {p : Pk} {r : List Pk} {n : Nat} : nxtB ⟨p :: r, n, []⟩ = true ∧ nxtP ⟨p :: r, n, []⟩ = p ∧ nxtS ⟨p :: r, n, []⟩ = ⟨r, n, []⟩ := by
  have hn : nxt ⟨p :: r, n, []⟩ = some 0 := by
    unfold nxt
    rw [List.findIdx?_cons]
    rfl
  unfold nxtB nxtP nxtS
  rw [hn]
  exact ⟨rfl, rfl, rfl⟩
theorem nx_empty {n : Nat} {cs : List (Int × Int)} : nxtB ⟨[], n, cs⟩ = false ∧ nxtS ⟨[], n, cs⟩ = ⟨[], n, cs⟩ := ⟨rfl, rfl⟩
theorem dlv_none' {l : List Pk} {n : Nat} {a b : Int} (hr : l.Pairwise fun p q => p.id < q.id) (h : l.countP (bt a b) = l.length) (id : Int) : dlv ⟨l, n, [(a, b)]⟩ id = false := by
  unfold dlv
  cases ht : there l id with
  | false => rfl
  | true =>
    obtain ⟨p, hp, _⟩ := there_at hr ht
    rw [at_is hp]
    have := (List.countP_eq_length.1 h) p (List.mem_of_getElem? hp)
    have : same (a, b) p.fm p.tt = true := this
    simp [cut_one, this]
theorem send_free {s : Ms} {fm tt : Int} {body : ByteArray} (hl : s.l.length ≤ 400) :
    (sendE s body = 0 ∧ sendI s body = (s.n : Int) + 1 ∧ sendS s fm tt body = ⟨s.l ++ [⟨(s.n : Int) + 1, fm, tt, body⟩], s.n + 1, s.cs⟩) ∨ (sendE s body = 1 ∧ sendI s body = 0 ∧ sendS s fm tt body = s) := by
  unfold sendE sendI sendS entE entI entS
  split
  · exact .inr ⟨rfl, rfl, rfl⟩
  · rw [if_neg (by omega), if_neg (by omega), if_neg (by omega)]
    exact .inl ⟨rfl, rfl, rfl⟩
end Msh
open Go.RowKit Msh
set_option linter.unusedVariables false
set_option maxRecDepth 10000

/-- A row of packets beside. -/
def RowR (v : Value) (l : List Pk) (w : World) (G : Nat → Prop) : Prop := eP.Own w 0 v l ∧ ∀ k, v.ownBlock = some k → G k
theorem kept_row (v : Value) (l : List Pk) : Kept (RowR v l) := fun w w' G H ⟨h1, h2⟩ C hn => ⟨h1.kept C (fun k hk => hn k (h2 k hk)), h2⟩
theorem Duo.row {W w : World} {b : Nat} {s : Ms} {v : Value} {l : List Pk} (d : Duo W w b s (RowR v l)) : eP.Own w 0 v l := by obtain ⟨F, G, hM, hR, hd, hF, hG, hW⟩ := d; exact hR.1
theorem duo_flight_row {W w : World} {b : Nat} {s : Ms} (d : Duo W w b s Alone) :
    Calls Try.prog 24 #[.pointer (some ⟨b, 0, none⟩)] w fun e w' => ∃ ad c, e = .returned (.slice ad s.l.length c) ∧ Duo W w' b s (RowR (.slice ad s.l.length c) s.l) := by
  obtain ⟨F, G, hM, hR, hd, hF, hG, hW⟩ := d
  refine (flight_any b s F w hM).mono ?_
  rintro e w' ⟨ad, c, rfl, hO, hg⟩
  have hs := hW.size
  refine ⟨ad, c, rfl, F, fun k => (Value.slice ad s.l.length c).ownBlock = some k, hM.grown hg, ⟨hO.low (Nat.zero_le _), fun _ => id⟩, fun k hk hr => ?_, hF, fun k hk => ?_, grown_tr hW hg⟩
  · have := hM.lt k hk
    have := (hO.lt k hr).1
    omega
  · have := hO.lt k hk
    exact ⟨by omega, this.2⟩
set_option maxRecDepth 100000 in
/-- A packet is like itself. -/
theorem neq_pk (p : Pk) (W : World) : (binOp .neq 37 (pv p) (pv p)).run Try.prog W = .ok (.bool false) W := by
  go_simp
end Go.Proofs.Ytffbaomaiohdiaa
