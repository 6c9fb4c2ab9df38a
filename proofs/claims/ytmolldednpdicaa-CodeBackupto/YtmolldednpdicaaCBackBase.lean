/- Kinds that the call gathers; what 'Decode' answers, with the shape of its slice. -/
import Derived.Test.YtmolldednpdicaaCJoinsBase
namespace Go.Proofs.Ytmolldednpdicaa
open Go.RowKit

theorem infoInt : (Try.prog.info? 3).map (fun i => (i.zero, i.size, i.bytes)) = some (some (.int .i64 0), 1, 8) := by kernel_rfl

/-- The slice v is the call's own, from block 'base' on, and holds the numbers ks. -/
def OwnK (w : World) (base : Nat) (v : Value) (ks : List Int) : Prop := w.ownsRow base 3 1 v ks.length (ks.map (Value.int .i64))

theorem ownK_nil (w : World) : OwnK w w.heap.size (.slice none 0 0) [] := World.ownsRow_nil w _ _ _
theorem OwnK.next {w w' : World} {base : Nat} {v : Value} {ks : List Int} (h : OwnK w base v ks) (g : w.grownBy w' none) : OwnK w' base v ks :=
  World.ownsRow.kept h g (by cases v.ownBlock <;> simp)
theorem OwnK.ki {w : World} {base : Nat} {v : Value} {ks : List Int} (h : OwnK w base v ks) : Ki w v ks := by
  refine ⟨?_⟩
  rcases h.2 with ⟨rfl, h0⟩ | ⟨g, cap, cur, rfl, hg, hh, h1, h2, h3, h4⟩
  · exact .inl ⟨List.eq_nil_of_length_eq_zero h0, none, 0, rfl⟩
  · refine .inr ⟨g, 0, cap, rfl, fun i hi => ?_⟩
    have hc := World.ownsRow.cells h (g := g) rfl i (.int .i64 (ks.getD i 0)) (by simp [hi])
    rwa [Addr.add_lit] at hc

/-- 'append(v, k)', v the call's own numbers, k one number that lies in the newest block. -/
theorem wpList_append_kind {w : World} {ops : Array Oper} {rest : List Oper} {o : Oper} {a : Act} {Q : Exit → Act → World → Prop} (hgd : o.guard = none) (s x : Operand)
    (ho : o.op = .call { callee := .builtin .append, args := #[s, x], argTypes := #[30, 30] })
    (base : Nat) (v : Value) (ks : List Int) (hs : a.eval s = v) (hown : OwnK w base v ks) (k : Int)
    (hx : a.eval x = .slice (some ⟨w.heap.size, 0, none⟩) 1 1)
    (hb : ks.length + 1 ≤ 17592186044000) (hbase : base ≤ w.heap.size)
    (h : ∀ v' w', OwnK w' base v' (ks ++ [k]) → w.grownBy w' v.ownBlock → wpList Try.prog ops Q rest (a.put o.dst v') w') : wpList Try.prog ops Q (o :: rest) a (w.alloc (.cells #[.int .i64 k] 3)) := by
  obtain ⟨i, hi, hz0, hz1, hz2⟩ := info_parts infoInt
  refine wpList_append_own _ hgd s x 30 ho base 3 i (.int .i64 0) 1 8 Try.underlying30 hi hz0 hz1 hz2 rfl (by decide) v ks.length (ks.map (Value.int .i64)) hs (hown.next (World.grownBy_alloc w _ none)) ⟨w.heap.size, 0, none⟩ 1 1 [.int .i64 k] hx (by simp)
    (cell_one_new _ _ _) (by intro u hu; simp at hu; subst hu; rfl) (by unfold maxLen; omega) (by omega) (by simp; omega) ?_
  intro v' w' hown' hg _
  refine h v' w' ?_ (grown_more (World.grownBy_alloc w _ _) hg (fun b e => .inl e))
  unfold OwnK
  simpa using hown'

theorem OwnF.shape {w : World} {base : Nat} {v : Value} {fs : List Code.Fd} (h : OwnF w base v fs) : ∃ a c, v = .slice a fs.length c := by
  rcases h.2 with ⟨rfl, h0⟩ | ⟨g, cap, cur, rfl, _⟩
  · exact ⟨none, 0, by rw [h0]⟩
  · exact ⟨_, _, rfl⟩

theorem decode_ok2 (vk : Value) (ks : List Int) (v : Value) (l : List Int) (w : World) (hk : Ki w vk ks) (hlk : ks.length ≤ 1000000000) (hs : Sl w v l) {fs : List Code.Fd} (hd : Code.dec ks l = .ok fs) :
    Calls Try.prog 14 #[vk, v] w fun e w' => ∃ a c, e = .returned (.tuple #[.slice a fs.length c, .int .i64 0]) ∧ OwnF w' w.heap.size (.slice a fs.length c) fs ∧ w.grownBy w' none :=
  (decode_ok vk ks v l w hk hlk hs hd).mono fun e w' ⟨v', he, hO, hg⟩ => by
    obtain ⟨a, c, rfl⟩ := hO.shape
    exact ⟨a, c, he, hO, hg⟩
theorem encode_fits2 (v : Value) (fs : List Code.Fd) (w : World) (hv : Fl w v fs) (hl : fs.length ≤ 1000000000) (hf : ∀ f ∈ fs, Code.Fits f) :
    Calls Try.prog 10 #[v] w fun e w' => ∃ a c, e = .returned (.tuple #[.slice a (Code.enc fs).length c, .int .i64 0]) ∧ Own w' w.heap.size (.slice a (Code.enc fs).length c) (Code.enc fs) ∧ w.grownBy w' none :=
  (encode_fits v fs w hv hl hf).mono fun e w' ⟨v', he, hO, hg⟩ => by
    have hlen : (Code.enc fs).length ≤ fs.length * 65546 := Code.enc_len (fun f hm => ⟨hf f hm, hv.in64 f hm⟩) (Nat.le_refl _)
    obtain ⟨a, c, rfl, _, _⟩ := (hO.sl (by omega)).cap
    exact ⟨a, c, he, hO, hg⟩
theorem dec_len {ks : List Int} {l : List Int} {fs : List Code.Fd} (h : Code.dec ks l = .ok fs) : fs.length = ks.length := by
  induction ks generalizing l fs with
  | nil =>
    rw [Code.dec] at h
    split at h
    · injection h with h; subst h; rfl
    · cases h
  | cons k ks ih =>
    rw [Code.dec] at h
    cases hr : Code.rField k l with
    | error e => rw [hr] at h; cases h
    | ok p =>
      obtain ⟨f, s⟩ := p
      rw [hr] at h
      simp only at h
      cases hd : Code.dec ks (l.drop s) with
      | error e => rw [hd] at h; cases h
      | ok gs =>
        rw [hd] at h
        simp only [Except.map] at h
        injection h with h
        subst h
        simp [ih hd]

theorem rField_err {k : Int} {l : List Int} {x : Int} (h : Code.rField k l = .error x) : (x == 0) = false := by
  unfold Code.rField at h
  split at h
  · cases hn : Code.rNum l with
    | error e => rw [hn] at h; injection h with h; subst h; exact (numOut_err hn).1
    | ok p =>
      obtain ⟨n, s⟩ := p
      rw [hn] at h
      simp only at h
      split at h
      · injection h with h; subst h; rfl
      · cases h
  · split at h
    · cases hn : Code.rNum l with
      | error e => rw [hn] at h; injection h with h; subst h; exact (numOut_err hn).1
      | ok p => obtain ⟨n, s⟩ := p; rw [hn] at h; cases h
    · split at h
      · cases hn : Code.rText l with
        | error e => rw [hn] at h; injection h with h; subst h; exact (textOut_err (a := none) (c := 0) hn).1
        | ok p => obtain ⟨n, s⟩ := p; rw [hn] at h; cases h
      · injection h with h; subst h; rfl
theorem dec_err {ks : List Int} {l : List Int} {x : Int} (h : Code.dec ks l = .error x) : (x == 0) = false := by
  induction ks generalizing l with
  | nil =>
    rw [Code.dec] at h
    split at h
    · cases h
    · injection h with h; subst h; rfl
  | cons k ks ih =>
    rw [Code.dec] at h
    cases hr : Code.rField k l with
    | error e => rw [hr] at h; injection h with h; subst h; exact rField_err hr
    | ok p =>
      obtain ⟨f, s⟩ := p
      rw [hr] at h
      simp only at h
      cases hd : Code.dec ks (l.drop s) with
      | error e => rw [hd] at h; injection h with h; subst h; exact ih hd
      | ok gs => rw [hd] at h; cases h
end Go.Proofs.Ytmolldednpdicaa
