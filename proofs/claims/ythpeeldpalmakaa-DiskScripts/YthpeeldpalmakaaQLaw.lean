/- What the statements' walks share. -/
import Derived.Test.YthpeeldpalmakaaQAwake
import Derived.Deep.CutRange
import Derived.Deep.CutBlock
namespace Go.Proofs.Ythpeeldpalmakaa
open Go.RowKit Dsk
set_option linter.unusedVariables false

namespace Dsk
theorem lookup_setF : ∀ (L : Ds) (nm x : List UInt8) (g : Fl → Fl), (setF L nm g).lookup x = if x = nm then (L.lookup x).map g else L.lookup x
  | [], nm, x, g => by simp [setF]
  | (a, f) :: L, nm, x, g => by
    have ih := lookup_setF L nm x g
    have e1 : setF ((a, f) :: L) nm g = (if a = nm then (a, g f) else (a, f)) :: setF L nm g := rfl
    rw [e1]
    by_cases h1 : a = nm
    · rw [if_pos h1]
      by_cases h2 : x = a
      · subst h2 h1
        simp [List.lookup]
      · have h3 : (x == a) = false := by simpa using h2
        simp only [List.lookup, h3]
        exact ih
    · rw [if_neg h1]
      by_cases h2 : x = a
      · subst h2
        rw [if_neg h1]
        simp [List.lookup]
      · have h3 : (x == a) = false := by simpa using h2
        simp only [List.lookup, h3]
        exact ih
theorem rdB_sync (s : St) (nm x : List UInt8) : rdB (syncS s nm).l x = rdB s.l x := by
  unfold rdB syncS
  simp only [lookup_setF]
  by_cases h : x = nm
  · rw [if_pos h]
    cases s.l.lookup x <;> rfl
  · rw [if_neg h]
theorem has_sync (s : St) (nm x : List UInt8) : has (syncS s nm).l x = has s.l x := has_setF s.l nm x fun f => ⟨f.by_, []⟩
theorem keys_sync (s : St) (nm : List UInt8) : (syncS s nm).l.map (·.1) = s.l.map (·.1) := setF_keys s.l nm fun f => ⟨f.by_, []⟩
theorem hasE_mem {L : Ds} {x : List UInt8} (h : x ∈ L.map (·.1)) : hasE L x = 0 := by
  unfold hasE
  obtain ⟨p, hp, e⟩ := List.mem_map.1 h
  rw [if_pos (has_iff.2 ⟨p.2, by rw [← e]; exact hp⟩)]
def syncAll (s : St) (ns : List (List UInt8)) : St := ns.foldl syncS s
theorem syncAll_next (s : St) {L : List (List UInt8)} {j : Nat} {x : List UInt8} (h : L[j]? = some x) : syncAll s (L.take (j + 1)) = syncS (syncAll s (L.take j)) x := by
  unfold syncAll
  rw [List.take_add_one, h]
  simp
theorem syncAll_snoc (s : St) (ns : List (List UInt8)) (x : List UInt8) : syncAll s (ns ++ [x]) = syncS (syncAll s ns) x := by simp [syncAll]
theorem syncAll_facts (s : St) : ∀ (k : Nat) (L : List (List UInt8)), L.length = k → ((syncAll s L).m = s.m ∧ (syncAll s L).l.map (·.1) = s.l.map (·.1) ∧ (∀ x, rdB (syncAll s L).l x = rdB s.l x) ∧ ∀ p ∈ (syncAll s L).l, p.1 ∈ L → p.2.ws = [])
  | 0, L, hk => by
    have : L = [] := List.eq_nil_of_length_eq_zero hk
    subst this
    exact ⟨rfl, rfl, fun _ => rfl, fun p _ h => by simp at h⟩
  | k + 1, L, hk => by
    obtain ⟨M, x, rfl⟩ : ∃ M x, L = M ++ [x] := by
      have hne : L ≠ [] := fun e => by subst e; simp at hk
      exact ⟨L.dropLast, L.getLast hne, (List.dropLast_concat_getLast hne).symm⟩
    obtain ⟨h1, h2, h3, h4⟩ := syncAll_facts s k M (by simpa using hk)
    rw [syncAll_snoc]
    refine ⟨h1, by rw [keys_sync, h2], fun y => by rw [rdB_sync, h3], fun p hp hm => ?_⟩
    rcases mem_set (L := (syncAll s M).l) (nm := x) (g := fun f => ⟨f.by_, []⟩) hp with hp' | ⟨e, f, _, e2⟩
    · by_cases hx : p.1 = x
      · -- what bears the name has been turned
        unfold syncS setF at hp
        obtain ⟨q, hq, e⟩ := List.mem_map.1 hp
        by_cases c : q.1 = x
        · rw [if_pos c] at e; rw [← e]
        · rw [if_neg c] at e; exact absurd (by rw [e]; exact hx) c
      · rcases List.mem_append.1 hm with h | h
        · exact h4 p hp' h
        · simp at h; exact absurd h hx
    · rw [e2]
/-- Where nothing waits a crash takes nothing. -/
theorem crash_calm (s : St) (h : ∀ p ∈ s.l, p.2.ws = []) (keep torn : Int) : crashS s keep torn = s ∧ wait s.l = 0 := by
  constructor
  · unfold crashS
    have e : (s.l.map fun p => (p.1, p.2.crash (behind s keep.toNat) torn)) = s.l := by
      conv => rhs; rw [← List.map_id s.l]
      refine List.map_congr_left fun p hp => ?_
      obtain ⟨nm, f, ws⟩ := p
      have := h _ hp
      simp only at this
      subst this
      simp [Fl.crash, lost]
    rw [e]
  · unfold wait
    have : (s.l.map fun p => p.2.ws.length) = s.l.map fun _ => 0 := List.map_congr_left fun p hp => by rw [h p hp]; rfl
    rw [this]
    induction s.l with
    | nil => rfl
    | cons a l ih => simpa using ih
end Dsk
theorem DoAt.low {w wr : World} {g q : Nat} {o : Dd} (h : DoAt w g q o) (hb : Below w.heap.size w wr) : DoAt wr g q o := by
  have hg : g < w.heap.size := World.block_lt_of_cell? w _ h.c0
  exact ⟨(hb.cell (p := ⟨g, q, none⟩) hg).trans h.c0, (hb.cell (p := ⟨g, q + 1, none⟩) hg).trans h.c1, (hb.cell (p := ⟨g, q + 2, none⟩) hg).trans h.c2, (hb.cell (p := ⟨g, q + 3, none⟩) hg).trans h.c3, (hb.cell (p := ⟨g, q + 4, none⟩) hg).trans h.c4, h.rx.below hb, h.hb, h.hn, h.hk⟩
/-- One of a script done, on a disk that was made since. -/
theorem does_lv {W w : World} {b : Nat} {s : St} {F : Nat → Prop} {o : Dd} {g q : Nat} (h : Lv W w b s F) (m1 : s.m ≤ 1000000000) (ho : DoAt W g q o) :
    Calls Try.prog 14 #[.pointer (some ⟨b, 0, none⟩), .agg #[.int .i64 o.kd, .string o.nm, o.v, .int .i64 o.keep, .int .i64 o.torn]] w fun e w' => e = .returned (.int .i64 (stepE s o)) ∧ ∃ F', Lv W w' b (stepS s o) F' ∧ (∀ k, F' k → F k ∨ w.heap.size ≤ k) ∧ Chg F w w' := by
  have hl := ho.low h.2.2
  refine (does_any b s F o w h.1 m1 hl.rx ho.hb ho.hn ho.hk fun hne k hk c => ?_).mono fun e w' ⟨he, ou⟩ => ⟨he, h.out ou⟩
  have := ho.rx.lt hne k hk
  have := h.2.1 k c
  omega
theorem Sc.at_ {W : World} {a : Option Addr} {n c : Nat} {os : List Dd} (h : Sc W (.slice a n c) os) : n = os.length ∧ os.length ≤ 9223372036854775807 ∧ ∀ (i : Nat) (o : Dd), os[i]? = some o → ∃ g q, (∀ W', (Instr.indexAt 22 (.slice a n c) (.int .i64 (i : Int))).run Try.prog W' = .ok (.pointer (some ⟨g, q, none⟩)) W') ∧ DoAt W g q o := by
  obtain ⟨a', c', e, h1, h2⟩ := h
  injection e with _ e _
  exact ⟨e, h1, h2⟩
theorem keys_short {s : St} (h : Ok s) : ∀ x ∈ srtS (s.l.map (·.1)), x.length ≤ 16 := fun x hx => by
  have hx' : x ∈ s.l.map (·.1) := (List.mergeSort_perm _ _).mem_iff.1 hx
  obtain ⟨p, hp, rfl⟩ := List.mem_map.1 hx'
  have := h.nm p hp
  unfold isNm at this
  simp only [Bool.and_eq_true, decide_eq_true_eq] at this
  exact this.1.2
theorem mem_srtS {l : List (List UInt8)} {x : List UInt8} : x ∈ srtS l ↔ x ∈ l := (List.mergeSort_perm _ _).mem_iff
theorem read_l {W w : World} {b : Nat} {s : St} {F : Nat → Prop} (h : Lv W w b s F) (x : List UInt8) (hx : x.length ≤ 140737488351232) :
    Calls Try.prog 15 #[.pointer (some ⟨b, 0, none⟩), .string ⟨x.toArray⟩] w fun e w' => ∃ ad n c, e = .returned (.tuple #[.slice ad n c, .int .i64 (hasE s.l x)]) ∧ eB.Own w' w.heap.size (.slice ad n c) (rdB s.l x) ∧ w.grownBy w' none :=
  (read_any b s F ⟨x.toArray⟩ (by show x.toArray.size ≤ _; simpa using hx) w h.1).mono fun e w' ⟨ad, c, he, o, g⟩ => ⟨ad, _, c, he, o, g⟩
theorem sync_l {W w : World} {b : Nat} {s : St} {F : Nat → Prop} (h : Lv W w b s F) (x : List UInt8) (hx : x.length ≤ 140737488351232) :
    Calls Try.prog 22 #[.pointer (some ⟨b, 0, none⟩), .string ⟨x.toArray⟩] w fun e w' => e = .returned (.int .i64 (hasE s.l x)) ∧ ∃ F', Lv W w' b (syncS s x) F' ∧ (∀ k, F' k → F k ∨ w.heap.size ≤ k) ∧ Chg F w w' :=
  (sync_any b s F ⟨x.toArray⟩ (by show x.toArray.size ≤ _; simpa using hx) w h.1).mono fun e w' ⟨he, ou⟩ => ⟨he, h.out ou⟩
/-- A row that lies apart from a disk's blocks stays so. -/
theorem apart_next {F F' : Nat → Prop} {w : World} {α : Type} {E : Elm α} {base : Nat} {v : Value} {l : List α} (ho : E.Own w base v l) (ha : ∀ k, v.ownBlock = some k → ¬ F k) (hF : ∀ k, F' k → F k ∨ w.heap.size ≤ k) : ∀ k, v.ownBlock = some k → ¬ F' k := fun k hk c => by
  rcases hF k c with e | e
  · exact ha k hk e
  · have := (ho.lt k hk).2; omega
end Go.Proofs.Ythpeeldpalmakaa
