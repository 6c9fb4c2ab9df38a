/- The reference's rising look chooses what the program's falling sweep chooses. The reference's opening: what lies in memory. The reference's opening: the walk. -/
import Derived.Test.YtapdhkgeolcogaaGreatDoorHl
namespace Go.Proofs.YtapdhkgeolcogaaGreatDoor
open Go.RowKit Dsk Lg
set_option linter.unusedVariables false

namespace Lg
/-- A log's name with another number. -/
def bad (best : Nat) (x : By) : Bool := match nOf x with | some n => n != best | none => false
def pickS (s : St) (best : Nat) : St := ⟨s.l.filter fun p => !bad best p.1, s.m⟩
/-- A file that is whole. -/
def whole (s : St) (n : Nat) : Bool := (rdF (rdB s.l (nm n))).isSome
/-- Names taken away. -/
def offS (s : St) (zs : List Nat) : St := ⟨s.l.filter fun p => !(zs.any fun n => p.1 == nm n), s.m⟩
theorem offS_nil (s : St) : offS s [] = s := by
  unfold offS
  rw [List.filter_eq_self.2 (by simp)]
theorem offS_step (s : St) (zs : List Nat) (n : Nat) : remS (offS s zs) (nm n) = offS s (zs ++ [n]) := by
  unfold remS offS
  simp only [List.filter_filter]
  congr 1
  apply List.filter_congr
  intro p _
  simp [List.any_append, Bool.and_comm, bne]
theorem rdB_off {s : St} (ok : Ok s) {zs : List Nat} {n : Nat} (h : n ∉ zs) : rdB (offS s zs).l (nm n) = rdB s.l (nm n) := by
  have hnd : ((offS s zs).l.map (·.1)).Nodup := (List.filter_sublist.map _).nodup ok.nd
  cases hh : has s.l (nm n) with
  | true =>
    obtain ⟨f, hf⟩ := has_iff.1 hh
    rw [rdB_mem ok.nd hf]
    refine rdB_mem hnd (List.mem_filter.2 ⟨hf, ?_⟩)
    simp only [Bool.not_eq_true', List.any_eq_false]
    intro k hk e
    have : nm n = nm k := by simpa using e
    rw [nm_inj this] at h
    exact h hk
  | false =>
    rw [rdB_not hh, rdB_not]
    cases h2 : has (offS s zs).l (nm n) with
    | false => rfl
    | true =>
      obtain ⟨f, hf⟩ := has_iff.1 h2
      rw [has_iff.2 ⟨f, (List.mem_filter.1 hf).1⟩] at hh
      cases hh
/-- The sweep ahead of a whole file. -/
theorem sweep_none {s : St} (ok : Ok s) : ∀ (zs P : List Nat) (m : Nat), (P ++ zs).Nodup → (∀ n ∈ zs, whole s n = false) → zs.foldl stepC ⟨offS s P, [], m, [], 0⟩ = ⟨offS s (P ++ zs), [], zs.foldl max m, [], 0⟩
  | [], P, m, _, _ => by simp
  | z :: zs, P, m, hn, hw => by
    have hz : z ∉ P := fun hc => (List.nodup_append.1 hn).2.2 z hc z (by simp) rfl
    have h1 : stepC ⟨offS s P, [], m, [], 0⟩ z = ⟨offS s (P ++ [z]), [], max m z, [], 0⟩ := by
      unfold stepC
      rw [if_pos rfl]
      have : rdF (rdB (offS s P).l (nm z)) = none := by
        rw [rdB_off ok hz]
        have := hw z (by simp)
        unfold whole at this
        cases hq : rdF (rdB s.l (nm z)) with
        | none => rfl
        | some p => rw [hq] at this; cases this
      rw [this]
      simp only [offS_step]
    rw [List.foldl_cons, h1, sweep_none ok zs (P ++ [z]) (max m z) (by simpa using hn) fun n hk => hw n (by simp [hk])]
    simp
/-- And behind it. -/
theorem sweep_some {s : St} {file : By} {ls : List By} {r : Nat} (hf : file ≠ []) : ∀ (zs P : List Nat) (m : Nat), zs.foldl stepC ⟨offS s P, file, m, ls, r⟩ = ⟨offS s (P ++ zs), file, zs.foldl max m, ls, r⟩
  | [], P, m => by simp
  | z :: zs, P, m => by
    have h1 : stepC ⟨offS s P, file, m, ls, r⟩ z = ⟨offS s (P ++ [z]), file, max m z, ls, r⟩ := by
      unfold stepC
      rw [if_neg hf]
      simp only [offS_step]
    rw [List.foldl_cons, h1, sweep_some hf zs (P ++ [z]) (max m z)]
    simp
theorem max_is : ∀ (zs : List Nat) (m last : Nat), (∀ n ∈ zs, n ≤ last) → m ≤ last → (m = last ∨ last ∈ zs) → zs.foldl max m = last
  | [], m, last, _, _, h => by simpa using h
  | z :: zs, m, last, h1, h2, h3 => by
    rw [List.foldl_cons]
    have hz := h1 z (by simp)
    refine max_is zs (max m z) last (fun n hn => h1 n (by simp [hn])) (by omega) ?_
    rcases h3 with e | e
    · left; omega
    · rcases List.mem_cons.1 e with e | e
      · left; omega
      · exact .inr e
theorem nats_sorted (s : St) : (natsS s.l).reverse.Pairwise fun a b => b ≤ a := by
  rw [List.pairwise_reverse]
  unfold natsS
  rw [List.pairwise_map]
  have h := List.pairwise_mergeSort (le := fun x y : Int => decide (x ≤ y)) (fun a b c h1 h2 => by simp only [decide_eq_true_eq] at *; omega) (fun a b => by simp only [Bool.or_eq_true, decide_eq_true_eq]; omega) (numsOf (srtS (s.l.map (·.1))))
  exact List.Pairwise.imp (fun {a b} h => by have : a ≤ b := by simpa using h
                                             omega) h
theorem nats_mem {s : St} {n : Nat} (h : n ∈ natsS s.l) : ∃ p ∈ s.l, nOf p.1 = some n := by
  unfold natsS at h
  obtain ⟨z, hz, e⟩ := List.mem_map.1 h
  have hz2 := (List.mergeSort_perm _ _).mem_iff.1 hz
  unfold numsOf at hz2
  obtain ⟨x, hx, hq⟩ := List.mem_filterMap.1 hz2
  obtain ⟨p, hp, rfl⟩ := List.mem_map.1 ((List.mergeSort_perm _ _).mem_iff.1 hx)
  refine ⟨p, hp, ?_⟩
  cases hk : nOf p.1 with
  | none => rw [hk] at hq; cases hq
  | some k => rw [hk] at hq; simp at hq; congr 1; omega
theorem off_pick {s : St} (ok : Ok s) {best : Nat} {zs : List Nat} (h : ∀ n, n ∈ zs ↔ (n ∈ natsS s.l ∧ n ≠ best)) : offS s zs = pickS s best := by
  unfold offS pickS
  congr 1
  apply List.filter_congr
  intro p hp
  congr 1
  rw [Bool.eq_iff_iff, List.any_eq_true]
  constructor
  · rintro ⟨n, hn, e⟩
    have e : p.1 = nm n := by simpa using e
    obtain ⟨h1, h2⟩ := (h n).1 hn
    obtain ⟨p', _, h4⟩ := nats_mem h1
    obtain ⟨a1, a2, _⟩ := nOf_some h4
    unfold bad
    rw [e, nOf_nm a1 a2]
    simpa using h2
  · intro hb
    unfold bad at hb
    cases hk : nOf p.1 with
    | none => rw [hk] at hb; cases hb
    | some n =>
      rw [hk] at hb
      exact ⟨n, (h n).2 ⟨mem_nats hp hk, by simpa using hb⟩, by rw [(nOf_some hk).2.2]; simp⟩
/-- What the reference's look finds: the last number, the best whole file. -/
structure Fnd (s : St) (N : List By) (last best : Nat) (fd : Option (List By × Nat)) : Prop where
  top : ∀ x ∈ N, ∀ n, nOf x = some n → n ≤ last
  last_ : last = 0 ∨ ∃ x ∈ N, nOf x = some last
  most : ∀ x ∈ N, ∀ n, nOf x = some n → whole s n = true → n ≤ best
  none_ : best = 0 → fd = none
  some_ : best ≠ 0 → (∃ x ∈ N, nOf x = some best) ∧ fd = rdF (rdB s.l (nm best)) ∧ whole s best = true
theorem Fnd.nil (s : St) : Fnd s [] 0 0 none := ⟨by simp, .inl rfl, by simp, fun _ => rfl, fun h => absurd rfl h⟩
/-- A name more. -/
theorem Fnd.step {s : St} {N : List By} {last best : Nat} {fd : Option (List By × Nat)} (h : Fnd s N last best fd) (x : By) :
    (∀ n, (nOf x).getD 0 = n → best < n ∧ whole s n = true → Fnd s (N ++ [x]) (max last n) n (rdF (rdB s.l (nm n)))) ∧ (∀ n, (nOf x).getD 0 = n → ¬ (best < n ∧ whole s n = true) → Fnd s (N ++ [x]) (max last n) best fd) := by
  have hx : ∀ n, (nOf x).getD 0 = n → (nOf x = some n ∧ 1 ≤ n) ∨ (nOf x = none ∧ n = 0) := fun n e => by
    cases hk : nOf x with
    | none => rw [hk] at e; exact .inr ⟨rfl, e.symm⟩
    | some k => rw [hk] at e; have := (nOf_some hk).1; simp at e; subst e; exact .inl ⟨rfl, this⟩
  have T : ∀ n, (nOf x).getD 0 = n → (∀ y ∈ N ++ [x], ∀ k, nOf y = some k → k ≤ max last n) ∧ (max last n = 0 ∨ ∃ y ∈ N ++ [x], nOf y = some (max last n)) := fun n e => by
    refine ⟨fun y hy k hk => ?_, ?_⟩
    · rcases List.mem_append.1 hy with hy | hy
      · have := h.top y hy k hk; omega
      · simp at hy; subst hy
        rw [hk] at e; simp at e; omega
    · by_cases hm : last < n
      · rcases hx n e with ⟨e2, _⟩ | ⟨e2, e3⟩
        · exact .inr ⟨x, by simp, by rw [e2]; congr 1; omega⟩
        · omega
      · have em : max last n = last := by omega
        rw [em]
        rcases h.last_ with e3 | ⟨y, hy, hk⟩
        · exact .inl e3
        · exact .inr ⟨y, by simp [hy], hk⟩
  refine ⟨fun n e hb => ⟨(T n e).1, (T n e).2, fun y hy k hk hw => ?_, fun e0 => by omega, fun _ => ⟨?_, rfl, hb.2⟩⟩, fun n e hb => ⟨(T n e).1, (T n e).2, fun y hy k hk hw => ?_, h.none_, fun h0 => ?_⟩⟩
  · rcases List.mem_append.1 hy with hy | hy
    · have := h.most y hy k hk hw; omega
    · simp at hy; subst hy
      rw [hk] at e; simp at e; omega
  · rcases hx n e with ⟨e2, _⟩ | ⟨e2, e3⟩
    · exact ⟨x, by simp, e2⟩
    · omega
  · rcases List.mem_append.1 hy with hy | hy
    · exact h.most y hy k hk hw
    · simp at hy; subst hy
      rw [hk] at e; simp at e; subst e
      have : ¬ best < k := fun c => hb ⟨c, hw⟩
      omega
  · obtain ⟨⟨y, hy, e1⟩, e2, e3⟩ := h.some_ h0
    exact ⟨⟨y, by simp [hy], e1⟩, e2, e3⟩
/-- The sweep chooses what the look finds. -/
theorem choose_found {s : St} (ok : Ok s) {last best : Nat} {fd : Option (List By × Nat)} (h : Fnd s (srtS (s.l.map (·.1))) last best fd) :
    chooseC s = ⟨pickS s best, if best = 0 then [] else nm best, last, (fd.getD ([], 0)).1, (fd.getD ([], 0)).2⟩ := by
  have hin : ∀ x, x ∈ srtS (s.l.map (·.1)) ↔ ∃ p ∈ s.l, p.1 = x := fun x => (List.mergeSort_perm _ _).mem_iff.trans (by simp)
  have hnat : ∀ n, n ∈ natsS s.l ↔ ∃ x ∈ srtS (s.l.map (·.1)), nOf x = some n := fun n => ⟨fun hn => by
    obtain ⟨p, hp, hk⟩ := nats_mem hn
    exact ⟨p.1, (hin _).2 ⟨p, hp, rfl⟩, hk⟩, fun ⟨x, hx, hk⟩ => by
    obtain ⟨p, hp, rfl⟩ := (hin x).1 hx
    exact mem_nats hp hk⟩
  have hnd := (List.reverse_perm _).nodup_iff.2 (nats_nodup ok)
  have hso := nats_sorted s
  have hmax : ∀ zs : List Nat, (∀ n, n ∈ zs ↔ n ∈ natsS s.l) → zs.foldl max 0 = last := fun zs hz => by
    refine max_is zs 0 last (fun n hn => ?_) (Nat.zero_le _) ?_
    · obtain ⟨x, hx, hk⟩ := (hnat n).1 ((hz n).1 hn)
      exact h.top x hx n hk
    · rcases h.last_ with e | ⟨x, hx, hk⟩
      · exact .inl e.symm
      · exact .inr ((hz _).2 ((hnat _).2 ⟨x, hx, hk⟩))
  have hmem : ∀ n, n ∈ (natsS s.l).reverse ↔ n ∈ natsS s.l := fun n => by simp
  have hst : startC s = ⟨offS s [], [], 0, [], 0⟩ := by rw [offS_nil]; rfl
  unfold chooseC
  rw [hst]
  generalize (natsS s.l).reverse = zs at *
  by_cases h0 : best = 0
  · rw [sweep_none ok zs [] 0 (by simpa using hnd) fun n hn => ?_, hmax zs hmem, h.none_ h0, if_pos h0, List.nil_append, off_pick ok (best := best) fun n => ?_]
    · rfl
    · rw [hmem]
      refine ⟨fun hn => ⟨hn, fun e => ?_⟩, fun hn => hn.1⟩
      obtain ⟨p, _, hk⟩ := nats_mem hn
      have := (nOf_some hk).1
      omega
    · cases hw : whole s n with
      | false => rfl
      | true =>
        obtain ⟨x, hx, hk⟩ := (hnat n).1 ((hmem n).1 hn)
        have := h.most x hx n hk hw
        have := (nOf_some hk).1
        omega
  · obtain ⟨⟨x, hx, hk⟩, hfd, hwb⟩ := h.some_ h0
    have hb : best ∈ zs := (hmem _).2 ((hnat _).2 ⟨x, hx, hk⟩)
    obtain ⟨xs, ys, hsp⟩ := List.append_of_mem hb
    subst hsp
    have hm := hmax _ hmem
    rw [List.foldl_append, List.foldl_cons] at hm
    rw [List.foldl_append, List.foldl_cons, if_neg h0]
    have hxs : ∀ n ∈ xs, best < n := fun n hn => by
      have h1 := (List.pairwise_append.1 hso).2.2 n hn best (by simp)
      have h2 := (List.nodup_append.1 hnd).2.2 n hn best (by simp)
      omega
    have hb2 : best ∉ xs := fun c => by have := hxs best c; omega
    have hb3 : best ∉ ys := fun c => by
      have := (List.nodup_append.1 hnd).2.1
      rw [List.nodup_cons] at this
      exact this.1 c
    rw [sweep_none ok xs [] 0 (by simpa using (List.nodup_append.1 hnd).1) fun n hn => ?_, List.nil_append]
    · obtain ⟨q, hq⟩ : ∃ q, rdF (rdB s.l (nm best)) = some q := Option.isSome_iff_exists.1 hwb
      obtain ⟨ls, r⟩ := q
      have hstep : stepC ⟨offS s xs, [], xs.foldl max 0, [], 0⟩ best = ⟨offS s xs, nm best, max (xs.foldl max 0) best, ls, r⟩ := by
        unfold stepC
        rw [if_pos rfl]
        simp only [rdB_off ok hb2, hq]
      rw [hstep, sweep_some (nm_ne best), hm, hfd, hq, off_pick ok (best := best) fun n => ?_]
      · rfl
      · rw [← hmem, List.mem_append, List.mem_append, List.mem_cons]
        refine ⟨fun hn => ⟨hn.imp id .inr, fun e => ?_⟩, fun ⟨hn, hne⟩ => hn.imp id fun c => c.resolve_left hne⟩
        rcases hn with c | c
        · exact hb2 (e ▸ c)
        · exact hb3 (e ▸ c)
    · cases hw : whole s n with
      | false => rfl
      | true =>
        obtain ⟨x', hx', hk'⟩ := (hnat n).1 ((hmem n).1 (by simp [hn]))
        have := h.most x' hx' n hk' hw
        have := hxs n hn
        omega
/-- Names taken away one by one. -/
def partS (s : St) (best : Nat) (N : List By) : St := ⟨s.l.filter fun p => !(N.contains p.1 && bad best p.1), s.m⟩
theorem partS_nil (s : St) (best : Nat) : partS s best [] = s := by unfold partS; rw [List.filter_eq_self.2 (by simp)]
theorem partS_rem (s : St) (best : Nat) (N : List By) (x : By) (h : bad best x = true) : remS (partS s best N) x = partS s best (N ++ [x]) := by
  unfold remS partS
  simp only [List.filter_filter]
  congr 1
  apply List.filter_congr
  intro p _
  by_cases e : p.1 = x
  · rw [e]; simp [h]
  · simp [e]
theorem partS_not (s : St) (best : Nat) (N : List By) (x : By) (h : bad best x = false) : partS s best N = partS s best (N ++ [x]) := by
  unfold partS
  congr 1
  apply List.filter_congr
  intro p _
  by_cases e : p.1 = x
  · rw [e]; simp [h]
  · simp [e]
theorem partS_all (s : St) (best : Nat) : partS s best (srtS (s.l.map (·.1))) = pickS s best := by
  unfold partS pickS
  congr 1
  apply List.filter_congr
  intro p hp
  have : (srtS (s.l.map (·.1))).contains p.1 = true := List.contains_iff_mem.2 ((List.mergeSort_perm _ _).mem_iff.2 (List.mem_map.2 ⟨p, hp, rfl⟩))
  rw [this, Bool.true_and]
theorem bad_eq (best : Nat) (x : By) : bad best x = (decide (0 < (nOf x).getD 0) && decide ((nOf x).getD 0 ≠ best)) := by
  unfold bad
  cases hk : nOf x with
  | none => simp
  | some n =>
    have := (nOf_some hk).1
    have h0 : decide (0 < n) = true := decide_eq_true (by omega)
    simp only [Option.getD_some, h0, Bool.true_and]
    rw [Bool.eq_iff_iff]
    simp
theorem remS_empty {s : St} (ok : Ok s) : remS s [] = s := by
  unfold remS
  have : (s.l.filter fun p => p.1 != []) = s.l := List.filter_eq_self.2 fun p hp => by
    have := ok.nm p hp
    cases hp1 : p.1 with
    | nil => rw [hp1] at this; simp [isNm] at this
    | cons a b => rfl
  rw [this]
end Lg
end Go.Proofs.YtapdhkgeolcogaaGreatDoor
namespace Go.Proofs.YtapdhkgeolcogaaGreatDoor
open Go.RowKit Dsk Lg
set_option linter.unusedVariables false

/-- The names, the found file's box, the log's box: all in L .. Z. -/
structure Oth (L Z : Nat) (wr : World) (rb fb : Nat) (fv : Value) (N : List By) (ls : List By) (sz : Int) : Prop where
  zl : Z ≤ wr.heap.size
  fo : eS.Own wr L fv N
  fa : ∀ j, fv.ownBlock = some j → j ≠ rb ∧ j ≠ fb ∧ j < Z
  b0 : ∃ v, wr.cell? ⟨fb, 0, none⟩ = some v ∧ Ro wr L v ls (fun k => L ≤ k ∧ k < Z ∧ k ≠ rb ∧ k ≠ fb) ∧ ∀ j, v.ownBlock = some j → j ≠ rb ∧ j ≠ fb ∧ j < Z
  b1 : wr.cell? ⟨fb, 1, none⟩ = some (.int .i64 sz)
  b2 : ∃ u, wr.cell? ⟨fb, 2, none⟩ = some u
  ff : ∀ i, wr.frozen? ⟨fb, i, none⟩ = false
  lb : L ≤ fb ∧ fb < Z ∧ fb ≠ rb ∧ L ≤ rb ∧ rb < Z
section
variable {W w w' wr : World} {L Z q rb fb : Nat} {s s' : St} {G G' F : Nat → Prop} {c c' n last cnt : Nat} {fv : Value} {N ls : List By} {sz : Int}
theorem Oth.kept (h : Oth L Z wr rb fb fv N ls sz) (g : Chg F wr w') (hF : ∀ k, F k → k < L ∨ Z ≤ k ∨ k = rb) : Oth L Z w' rb fb fv N ls sz := by
  have hz := g.size
  have hlb := h.lb
  have hn : ∀ k, L ≤ k → k < Z → k ≠ rb → ¬ F k := fun k h1 h2 h3 e => by rcases hF k e with e | e | e <;> omega
  have hfb : ¬ F fb := hn fb (by omega) (by omega) (by omega)
  have hzl := h.zl
  obtain ⟨v, v1, v2, v3⟩ := h.b0
  obtain ⟨u, hu⟩ := h.b2
  refine ⟨by omega, h.fo.kept g fun k hk => hn k (h.fo.lt k hk).1 (h.fa k hk).2.2 (h.fa k hk).1, h.fa, ⟨v, g.cell v1 hfb, v2.kept g (fun k hk => hn k (v2.lt k hk).1 (v3 k hk).2.2 (v3 k hk).1) (fun k hk => hn k hk.1 hk.2.1 hk.2.2.1), v3⟩, g.cell h.b1 hfb, ⟨u, g.cell hu hfb⟩, fun i => (g.frozen (a := ⟨fb, i, none⟩) (by show fb < _; omega) hfb).trans (h.ff i), hlb⟩
theorem Oth.grown (h : Oth L Z wr rb fb fv N ls sz) (g : wr.grownBy w' none) : Oth L Z w' rb fb fv N ls sz := h.kept (F := fun _ => False) (Chg.of g (by simp)) fun _ => False.elim
/-- Another file found. -/
theorem Oth.found {w5 : World} {S5 : Nat} {v5 : Value} {ls5 : List By} {sz5 : Int} {u5 : Value} (h : Oth L Z wr rb fb fv N ls sz) (g : wr.grownBy w5 none) (hS : wr.heap.size ≤ S5) (hR : Ro w5 S5 v5 ls5 (fun k => S5 ≤ k)) :
    Oth L w5.heap.size (((w5.setCell ⟨fb, 0, none⟩ v5).setCell ⟨fb, 1, none⟩ (.int .i64 sz5)).setCell ⟨fb, 2, none⟩ u5) rb fb fv N ls5 sz5 ∧ Chg (fun k => k = fb) w5 (((w5.setCell ⟨fb, 0, none⟩ v5).setCell ⟨fb, 1, none⟩ (.int .i64 sz5)).setCell ⟨fb, 2, none⟩ u5) := by
  have h5 := h.grown g
  have hz := g.size
  have hlb := h.lb
  have hzl := h.zl
  obtain ⟨v, v1, _, _⟩ := h5.b0
  obtain ⟨u, hu⟩ := h5.b2
  obtain ⟨t0, t1, t2⟩ := sets3 v1 h5.b1 hu v5 (.int .i64 sz5) u5
  have C : Chg (fun k => k = fb) w5 (((w5.setCell ⟨fb, 0, none⟩ v5).setCell ⟨fb, 1, none⟩ (.int .i64 sz5)).setCell ⟨fb, 2, none⟩ u5) := ((chg_set w5 ⟨fb, 0, none⟩ v5).trans (chg_set _ ⟨fb, 1, none⟩ (.int .i64 sz5)) fun _ hb => .inl hb).trans (chg_set _ ⟨fb, 2, none⟩ u5) fun _ hb => .inl hb
  have hv5 : ∀ j, v5.ownBlock = some j → S5 ≤ j ∧ j < w5.heap.size := fun j hj => hR.lt j hj
  obtain ⟨vs, k1, k2⟩ := hR
  have hR2 : Ro w5 L v5 ls5 (fun k => L ≤ k ∧ k < w5.heap.size ∧ k ≠ rb ∧ k ≠ fb) := by
    refine ⟨vs, k1.low (by omega), k2.1, fun i p l hp hl => ⟨(k2.2 i p l hp hl).1, fun h0 k hk => ?_⟩⟩
    have h1 := (k2.2 i p l hp hl).2 h0 k hk
    have h2 := (k2.2 i p l hp hl).1.lt h0 k hk
    exact ⟨by omega, h2, by omega, by omega⟩
  refine ⟨⟨by simp, h5.fo.kept C fun k hk => (h5.fa k hk).2.1, fun j hj => ⟨(h5.fa j hj).1, (h5.fa j hj).2.1, by have := (h5.fa j hj).2.2; omega⟩, ⟨v5, ?_, hR2.kept C (fun k hk e => by have := hv5 k hk; omega) (fun k hk => hk.2.2.2), fun j hj => by have := hv5 j hj; exact ⟨by omega, by omega, by omega⟩⟩, ?_, ⟨_, t2⟩, fun i => ?_, ⟨hlb.1, by omega, hlb.2.2.1, hlb.2.2.2.1, by omega⟩⟩, C⟩
  · rw [set_other (by simp), set_other (by simp)]; exact t0
  · rw [set_other (by simp)]; exact t1
  · simp only [World.frozen?_setCell]; exact h5.ff i
/-- What turns nothing of the reference's log. -/
theorem Wr.other (h : Wr W w q rb s G c n last cnt) (g : Chg F w w') (hF : ∀ k, F k → ¬ G k ∧ k ≠ rb ∧ W.heap.size ≤ k) (hl : ∀ v j, w.cell? ⟨rb, 3, none⟩ = some v → v.ownBlock = some j → ¬ F j) : Wr W w' q rb s G c n last cnt := by
  obtain ⟨ad, cp, vs, k1, k2, k3⟩ := h.c3
  have nf : ¬ F rb := fun e => (hF rb e).2.1 rfl
  exact ⟨h.rs.kept g fun k hk e => (hF k e).1 hk, h.lo, Chg.low h.bel g fun k hk => (hF k hk).2.2, g.cell h.c0 nf, g.cell h.c1 nf, g.cell h.c2 nf, ⟨ad, cp, vs, g.cell k1 nf, k2.kept g fun j hj => hl _ j k1 hj, k3⟩, fun i => (g.frozen (a := ⟨rb, i, none⟩) h.lt nf).trans (h.fr i), h.nf, h.wlo⟩
/-- The opening, in memory; w: the world ahead of it, H: the disk's blocks there. -/
structure Opn (W w : World) (H : Nat → Prop) (Z : Nat) (wr : World) (q rb fb : Nat) (s : St) (G : Nat → Prop) (c : Nat) (fv : Value) (N : List By) (last : Nat) (ls : List By) (sz : Int) : Prop where
  wl : Wr W wr q rb s G c 0 last 0
  c3 : wr.cell? ⟨rb, 3, none⟩ = some (.slice none 0 0)
  ga : ∀ k, G k → k < w.heap.size ∨ Z ≤ k
  ot : Oth w.heap.size Z wr rb fb fv N ls sz
  lw : W.heap.size ≤ w.heap.size
  ch : Chg H w wr
  gg : ∀ k, G k → H k ∨ w.heap.size ≤ k
section
variable {H : Nat → Prop}
theorem Opn.disk (h : Opn W w H Z wr q rb fb s G c fv N last ls sz) (r : RS w' q s' G' c') (hG : ∀ k, G' k → G k ∨ wr.heap.size ≤ k) (g : Chg G wr w') : Opn W w H Z w' q rb fb s' G' c' fv N last ls sz :=
  ⟨h.wl.disk r hG g, g.cell h.c3 h.wl.nf, fun k hk => (hG k hk).elim (h.ga k) fun e => .inr (by have := h.ot.zl; omega), h.ot.kept g fun k hk => (h.ga k hk).imp id .inl, h.lw, h.ch.trans g h.gg, fun k hk => (hG k hk).elim (h.gg k) fun e => .inr (by have := h.ch.size; omega)⟩
theorem Opn.grown (h : Opn W w H Z wr q rb fb s G c fv N last ls sz) (g : wr.grownBy w' none) : Opn W w H Z w' q rb fb s G c fv N last ls sz :=
  ⟨h.wl.grown g, g.cell h.c3 (by simp), h.ga, h.ot.grown g, h.lw, h.ch.trans (Chg.of (F := H) g (by simp)) fun _ hb => .inl hb, h.gg⟩
theorem Opn.lasts (h : Opn W w H Z wr q rb fb s G c fv N last ls sz) (m : Nat) : Opn W w H Z (wr.setCell ⟨rb, 2, none⟩ (.int .i64 (m : Int))) q rb fb s G c fv N m ls sz :=
  ⟨h.wl.setLast m, (set_other (by simp)).trans h.c3, h.ga, h.ot.kept (chg_set wr ⟨rb, 2, none⟩ _) fun k hk => .inr (.inr hk), h.lw, h.ch.trans (chg_set wr ⟨rb, 2, none⟩ _) fun b hb => .inr (by have := h.ot.lb; simp at hb; omega), h.gg⟩
theorem Opn.found {w5 : World} {S5 : Nat} {v5 : Value} {ls5 : List By} {sz5 : Int} {u5 : Value} (h : Opn W w H Z wr q rb fb s G c fv N last ls sz) (hG : ∀ k, G k → k < w.heap.size) (g : wr.grownBy w5 none) (hS : wr.heap.size ≤ S5) (hR : Ro w5 S5 v5 ls5 (fun k => S5 ≤ k)) :
    Opn W w H w5.heap.size (((w5.setCell ⟨fb, 0, none⟩ v5).setCell ⟨fb, 1, none⟩ (.int .i64 sz5)).setCell ⟨fb, 2, none⟩ u5) q rb fb s G c fv N last ls5 sz5 := by
  obtain ⟨o1, o2⟩ := h.ot.found (sz5 := sz5) (u5 := u5) g hS hR
  have hlb := h.ot.lb
  have hlw := h.lw
  have h5 := h.grown g
  refine ⟨h5.wl.other o2 (fun k hk => ⟨fun e => by have := hG k e; omega, by omega, by omega⟩) (fun v j hv hj => ?_), o2.cell h5.c3 (by show ¬ rb = fb; omega), fun k hk => .inl (hG k hk), o1, hlw, h5.ch.trans o2 fun b hb => .inr (by omega), h.gg⟩
  rw [h5.c3] at hv
  injection hv with hv
  subst hv
  cases hj
/-- At the start. -/
theorem Opn.start {w3 : World} {v3 : Value} (h : RS w q s G c) (lo : ∀ k, G k → W.heap.size ≤ k) (bel : Below W.heap.size W w) (t : TypeId) (t2 : TypeId)
    (g : (w.alloc (.cells #[.pointer (some ⟨q, 0, none⟩), .int .i64 0, .int .i64 0, .slice none 0 0] t)).grownBy w3 none) (hO : eS.Own w3 (w.heap.size + 1) v3 N) :
    Opn W w G (w3.heap.size + 1) (w3.alloc (.cells #[.slice none 0 0, .int .i64 0, .bool false] t2)) q w.heap.size w3.heap.size s G c v3 N 0 [] 0 := by
  have hz : w.heap.size + 1 ≤ w3.heap.size := by have := g.size; simpa using this
  have g3 : w.grownBy w3 none := grown_more (World.grownBy_alloc w _ none) g (by simp)
  have g4 := World.grownBy_alloc w3 (.cells #[.slice none 0 0, .int .i64 0, .bool false] t2) none
  have gb : (w.alloc (.cells #[.pointer (some ⟨q, 0, none⟩), .int .i64 0, .int .i64 0, .slice none 0 0] t)).grownBy (w3.alloc (.cells #[.slice none 0 0, .int .i64 0, .bool false] t2)) none := grown_more g g4 (by simp)
  have gw : w.grownBy (w3.alloc (.cells #[.slice none 0 0, .int .i64 0, .bool false] t2)) none := grown_more g3 g4 (by simp)
  have hlw : W.heap.size ≤ w.heap.size := bel.size
  have hlt := h.lt
  have hs0 : w.heap.size < (w.alloc (.cells #[.pointer (some ⟨q, 0, none⟩), .int .i64 0, .int .i64 0, .slice none 0 0] t)).heap.size := by simp
  refine ⟨⟨h.grown gw, lo, grown_low bel gw, gb.cell (new_at w rfl rfl) (by simp), gb.cell (new_at w rfl rfl) (by simp), gb.cell (new_at w rfl rfl) (by simp), ⟨none, 0, [], gb.cell (new_at w rfl rfl) (by simp), Elm.nil _ _, fun j hj => by cases hj⟩, fun i => ?_, fun e => by have := hlt _ e; omega, hlw⟩, gb.cell (new_at w rfl rfl) (by simp), fun k hk => .inl (hlt k hk), ⟨by simp, (hO.grown g4).low (by omega), fun j hj => ?_, ⟨_, new_at w3 rfl rfl, ⟨[], Elm.nil _ _, Each.nil _ _⟩, fun j hj => by cases hj⟩, new_at w3 rfl rfl, ⟨_, new_at w3 rfl rfl⟩, fun i => World.frozen?_alloc_new _ _ _ _, by omega⟩, hlw, Chg.of gw (by simp), fun k hk => .inl hk⟩
  · rw [(Chg.of (F := fun _ => False) gb (by simp)).frozen (a := ⟨w.heap.size, i, none⟩) hs0 id]
    exact World.frozen?_alloc_new _ _ _ _
  · have := hO.lt j hj; omega
end
end
end Go.Proofs.YtapdhkgeolcogaaGreatDoor
namespace Go.Proofs.YtapdhkgeolcogaaGreatDoor
open Go.RowKit Dsk Lg
set_option linter.unusedVariables false

theorem rread_own {w1 : World} {base : Nat} {a : Option Addr} {c : Nat} {B : By} (ho : eB.Own w1 base (.slice a B.length c) B) (hl : B.length ≤ 1048576) : Calls Tryz.prog 31 #[.slice a B.length c] w1 fun e w' => w1.grownBy w' none ∧ Rf10 w1 w' B e :=
  rread10 a c B w1 ((own_cd ho).sl (by rw [bI_len]; omega)) hl
theorem name_in {s : St} (ok : Ok s) {x : By} (hx : x ∈ srtS (s.l.map (·.1))) : x.length ≤ 16 := by
  obtain ⟨p, hp, rfl⟩ := List.mem_map.1 ((List.mergeSort_perm _ _).mem_iff.1 hx)
  have := ok.nm p hp
  unfold isNm at this
  simp at this
  omega
theorem names_most {s : St} (ok : Ok s) : (srtS (s.l.map (·.1))).length ≤ 64 := by
  have := (List.mergeSort_perm (s.l.map (·.1)) (fun x y => decide (x ≤ y))).length_eq
  have h2 := ok.len
  unfold srtS
  rw [this, List.length_map]
  exact h2
theorem fit_long {ls : List By} (h : Fit ls) : long ls = false := by
  unfold long
  rw [List.any_eq_false]
  intro l hl
  have := h l hl
  simp
  omega
theorem rdB_pick {s : St} (ok : Ok s) {best : Nat} (h1 : 1 ≤ best) (h2 : best ≤ 999999999) : rdB (pickS s best).l (nm best) = rdB s.l (nm best) := by
  have hnd : ((pickS s best).l.map (·.1)).Nodup := (List.filter_sublist.map _).nodup ok.nd
  cases hh : has s.l (nm best) with
  | true =>
    obtain ⟨f, hf⟩ := has_iff.1 hh
    rw [rdB_mem ok.nd hf]
    refine rdB_mem hnd (List.mem_filter.2 ⟨hf, ?_⟩)
    unfold bad
    rw [nOf_nm h1 h2]
    simp
  | false =>
    rw [rdB_not hh, rdB_not]
    cases h2 : has (pickS s best).l (nm best) with
    | false => rfl
    | true =>
      obtain ⟨f, hf⟩ := has_iff.1 h2
      rw [has_iff.2 ⟨f, (List.mem_filter.1 hf).1⟩] at hh
      cases hh
/-- The found list put into the log's box. -/
theorem Opn.hold {W w wr : World} {H G : Nat → Prop} {Z q rb fb c last : Nat} {s : St} {fv : Value} {N ls : List By} {sz : Int} (h : Opn W w H Z wr q rb fb s G c fv N last ls sz) (b : Nat) {v : Value} (hv : wr.cell? ⟨fb, 0, none⟩ = some v) :
    Wr W ((wr.setCell ⟨rb, 1, none⟩ (.int .i64 (b : Int))).setCell ⟨rb, 3, none⟩ v) q rb s G c b last ls.length ∧ Chg H w ((wr.setCell ⟨rb, 1, none⟩ (.int .i64 (b : Int))).setCell ⟨rb, 3, none⟩ v) ∧ (∃ ad cp, v = .slice ad ls.length cp) ∧ ((wr.setCell ⟨rb, 1, none⟩ (.int .i64 (b : Int))).setCell ⟨rb, 3, none⟩ v).cell? ⟨fb, 1, none⟩ = some (.int .i64 sz) ∧ ((wr.setCell ⟨rb, 1, none⟩ (.int .i64 (b : Int))).setCell ⟨rb, 3, none⟩ v).cell? ⟨fb, 0, none⟩ = some v ∧
    Rl ((wr.setCell ⟨rb, 1, none⟩ (.int .i64 (b : Int))).setCell ⟨rb, 3, none⟩ v) v ls (fun k => w.heap.size ≤ k ∧ k < Z ∧ k ≠ rb) ∧ ((wr.setCell ⟨rb, 1, none⟩ (.int .i64 (b : Int))).setCell ⟨rb, 3, none⟩ v).cell? ⟨rb, 3, none⟩ = some v ∧ ∀ j, v.ownBlock = some j → w.heap.size ≤ j := by
  obtain ⟨v', e, hR, hown⟩ := h.ot.b0
  rw [hv] at e
  injection e with e
  subst e
  obtain ⟨ad, cp, rfl⟩ := hR.form
  have hlb := h.ot.lb
  have h1 := h.wl.setN b
  have S1 := chg_set wr ⟨rb, 1, none⟩ (.int .i64 (b : Int))
  have k3 : (wr.setCell ⟨rb, 1, none⟩ (.int .i64 (b : Int))).cell? ⟨rb, 3, none⟩ = some (.slice none 0 0) := (set_other (by simp)).trans h.c3
  have kb : ∀ i, (wr.setCell ⟨rb, 1, none⟩ (.int .i64 (b : Int))).cell? ⟨fb, i, none⟩ = wr.cell? ⟨fb, i, none⟩ := fun i => set_other (by first | (simp; done) | (simp; omega))
  have S2 := chg_set (wr.setCell ⟨rb, 1, none⟩ (.int .i64 (b : Int))) ⟨rb, 3, none⟩ (.slice ad ls.length cp)
  have S := S1.trans S2 fun _ hb => .inl hb
  have C1 := h.ch.trans S fun k hk => .inr (by simp at hk; omega)
  have R2 := hR.kept S (fun k hk e => (hown k hk).1 e) (fun k hk e => hk.2.2.1 e)
  obtain ⟨vs, r1, r2⟩ := R2
  have hlw := h.lw
  refine ⟨⟨h1.rs.kept S2 fun k hk e => h1.nf (by rw [e] at hk; exact hk), h1.lo, Chg.low h1.bel S2 fun k hk => by rw [hk]; exact h1.wlo, (set_other (by simp)).trans h1.c0, (set_other (by simp)).trans h1.c1, (set_other (by simp)).trans h1.c2, ⟨ad, cp, vs, set_same k3, r1.low hlw, fun j hj => ⟨fun e => ?_, (hown j hj).1⟩⟩, fun i => (World.frozen?_setCell _ _ _ _).trans (h1.fr i), h1.nf, h1.wlo⟩, C1, ⟨ad, cp, rfl⟩, (set_other (by first | (simp; done) | (simp; omega))).trans ((kb 1).trans h.ot.b1), (set_other (by first | (simp; done) | (simp; omega))).trans ((kb 0).trans hv), ⟨vs, r1.rx, r2.wide fun k hk => ⟨hk.1, hk.2.1, hk.2.2.1⟩, fun _ k hk => ⟨(r1.lt k hk).1, (hown k hk).2.2, (hown k hk).1⟩⟩, set_same k3, fun j hj => (r1.lt j hj).1⟩
  have h3 := (r1.lt j hj).1
  have h4 := (hown j hj).2.2
  rcases h.ga j e with e | e <;> omega
/-- What opening answers. -/
def OpR (W w w' : World) (q : Nat) (s : St) (G : Nat → Prop) (c : Nat) (e : Ending) : Prop :=
  (openR s = none ∧ e = .returned (.tuple #[.pointer none, .int .i64 3]) ∧ Below W.heap.size W w') ∨
  ∃ s' n last ls rb G' c', openR s = some (s', nm n, last, ls) ∧ e = .returned (.tuple #[.pointer (some ⟨rb, 0, none⟩), .int .i64 0]) ∧ Wr W w' q rb s' G' c' n last ls.length ∧ c' ≤ c + ls.length + 1 ∧ w.heap.size ≤ rb ∧ (∀ k, G' k → G k ∨ w.heap.size ≤ k) ∧ Chg G w w' ∧ 1 ≤ n ∧ n ≤ 999999999 ∧ ∃ v R, w'.cell? ⟨rb, 3, none⟩ = some v ∧ Rl w' v ls R ∧ (∀ k, R k → w.heap.size ≤ k) ∧ ∀ j, v.ownBlock = some j → w.heap.size ≤ j
set_option maxRecDepth 100000 in
set_option maxHeartbeats 12800000 in
theorem ropen10 {W w : World} {q : Nat} {s : St} {G : Nat → Prop} {c : Nat} (h : RS w q s G c) (lo : ∀ k, G k → W.heap.size ≤ k) (bel : Below W.heap.size W w) (hc : c + 1048577 ≤ 999999999) :
    Calls Tryz.prog 11 #[.pointer (some ⟨q, 0, none⟩)] w fun e w' => OpR W w w' q s G c e := by
  obtain ⟨vN, q0, hoN⟩ := h.files
  have ok := h.ok
  have hNl := names_most ok
  have hNm : ∀ x ∈ srtS (s.l.map (·.1)), x.length ≤ 16 := fun x hx => name_in ok hx
  obtain ⟨N, hN⟩ : ∃ N, srtS (s.l.map (·.1)) = N := ⟨_, rfl⟩
  rw [hN] at hoN hNl hNm
  have HN : Hid (srtS (s.l.map (·.1)) = N) := hN
  obtain ⟨aN, cN, rfl⟩ := Elm.form hoN
  have g1 : ∀ o1 o2, w.grownBy ((w.alloc o1).alloc o2) none := fun o1 o2 => grown_more (World.grownBy_alloc w o1 none) (World.grownBy_alloc _ o2 none) (by simp)
  have hq : ∀ o1 o2, ((w.alloc o1).alloc o2).cell? ⟨q, 0, none⟩ = some (.slice aN N.length cN) := fun o1 o2 => (g1 o1 o2).cell q0 (by simp)
  have hX : ∀ o1 o2, eS.Rx ((w.alloc o1).alloc o2) (.slice aN N.length cN) N := fun o1 o2 => hoN.rx.grown (g1 o1 o2)
  have hE0 : ∀ o1, eS.Own ((w.alloc o1).alloc (.cells #[] 9)) (w.heap.size + 1) (.slice (some ⟨w.heap.size + 1, 0, none⟩) 0 0) [] := fun o1 => Elm.made (E := eS) (w.alloc o1) #[] 0 _ (by simp) (by unfold maxLen; omega) rfl
  have HH : Hid (RS w q s G c) := h
  have HOK : Hid (Ok s) := ok
  clear h hN ok
  go_enter Tryz.func11, Tryz.ntmps11
  go_wp2_with (at_builtin; refine Elm.wpList_append (E := eS) rfl (.tmp 20) (.tmp 24) rfl (w.heap.size + 1) _ [] rfl (hE0 _) _ N rfl (hX _ _) (by simp; omega) (by show (0 + N.length) * 16 ≤ _; omega) (by simp) ?_; intro a3 n3 c3 w3 hO3 hg3 hl3)
  obtain rfl : n3 = N.length := by simpa using hO3.len
  have gA := grown_more (World.grownBy_alloc (w.alloc (.cells #[.pointer (some ⟨q, 0, none⟩), .int .i64 0, .int .i64 0, .slice none 0 0] 48)) (.cells #[] 9) none) hg3 (fun b e => .inr (by have e' : some (w.heap.size + 1) = some b := e; injection e' with e'; simp; omega))
  have OP := Opn.start (N := N) HH.out lo bel _ 72 gA hO3
  have hlt : ∀ k, G k → k < w.heap.size := HH.out.lt
  clear hg3 hl3 hO3 gA hq hX hE0 g1 hoN q0
  obtain ⟨w4, hw4⟩ : ∃ w4, w4 = w3.alloc (.cells #[.slice none 0 0, .int .i64 0, .bool false] 72) := ⟨_, rfl⟩
  obtain ⟨rb, hrb⟩ : ∃ rb, rb = w.heap.size := ⟨_, rfl⟩
  obtain ⟨fb, hfb⟩ : ∃ fb, fb = w3.heap.size := ⟨_, rfl⟩
  have OP2 : Opn W w G (fb + 1) w4 q rb fb s G c (.slice a3 N.length c3) N 0 [] 0 := by rw [hw4, hrb, hfb]; exact OP
  have hrw : w.heap.size ≤ rb := by omega
  rw [← hw4, ← hrb, ← hfb]
  have HOP : Hid (Opn W w G (fb + 1) w4 q rb fb s G c (.slice a3 N.length c3) N 0 [] 0) := OP2
  clear OP OP2 hw4 hrb hfb
  go_loopw [6, 8] (fun b i wr => ∃ (k last best : Nat) (fd : Option (List By × Nat)) (sz : Int) (Z : Nat), k ≤ N.length ∧ b = .int .i64 (best : Int) ∧ i = .int .i64 (k : Int) ∧ Hid (Opn W w G Z wr q rb fb s G c (.slice a3 N.length c3) N last (fd.getD ([], 0)).1 sz) ∧ Hid (Fnd s (N.take k) last best fd) ∧ Hid (best ≠ 0 → sz = ((rdB s.l (nm best)).length : Int) - ((fd.getD ([], 0)).2 : Int)) ∧ Hid (last ≤ 999999999 ∧ best ≤ 999999999)) (fun _ i _ => N.length - (intOf i).toNat)
  case atStart => exact ⟨0, 0, 0, none, 0, fb + 1, Nat.zero_le _, rfl, rfl, HOP, Fnd.nil s, fun e => absurd rfl e, ⟨by omega, by omega⟩⟩
  case round =>
    obtain ⟨k, last, best, fd, sz, Z, hk, rfl, rfl, HO, HF, HS, HB⟩ := hrel
    clear HOP
    by_cases hkl : k < N.length
    · have hkli : (k : Int) < (N.length : Int) := by omega
      obtain ⟨x, hx⟩ : ∃ x, N[k]? = some x := ⟨_, List.getElem?_eq_getElem hkl⟩
      have hxm := hNm x (List.mem_of_getElem? hx)
      obtain ⟨g, o, cc, ev, hcell⟩ := HO.out.ot.fo.rx.at_ hx
      injection ev with e1 e2 e3
      subst e1 e3
      clear e2
      have e : eS.size = 1 := rfl
      have hcx : wr.cell? ⟨g, o + k, none⟩ = some (.string ⟨x.toArray⟩) := by
        have := hcell 0 _ rfl
        rw [e, Nat.mul_one, Nat.add_zero] at this
        exact this
      have NU : ∀ w1 : World, _ := fun w1 => rnumber_any x (by omega) w1
      have HTK : Hid (N.take (k + 1) = N.take k ++ [x]) := by show _ = _; rw [List.take_add_one, hx]; rfl
      have HNX : Hid (∀ n, (nOf x).getD 0 = n → n ≠ 0 → x = nm n ∧ n ≤ 999999999) := fun n e0 h0 => by
        cases hq : nOf x with
        | none => rw [hq] at e0; exact absurd e0.symm h0
        | some m => rw [hq] at e0; obtain ⟨_, a2, a3⟩ := nOf_some hq; simp at e0; subst e0; exact ⟨a3, a2⟩
      obtain ⟨n, hn⟩ : ∃ n, (nOf x).getD 0 = n := ⟨_, rfl⟩
      rw [hn] at NU
      have HNN : Hid ((nOf x).getD 0 = n) := hn
      have hBl := rd_len HOK.out x
      have HBX : Hid (n ≠ 0 → rdB s.l x = rdB s.l (nm n)) := fun h0 => by rw [← (HNX.out n hn h0).1]
      have RD : ∀ {w1 Z1 l1 s1 z1}, Opn W w G Z1 w1 q rb fb s G c (.slice (some ⟨g, o, none⟩) N.length c3) N l1 s1 z1 → _ := fun {w1 Z1 l1 s1 z1} hO => rs_read hO.wl.rs (by omega) x
      have c2 := HO.out.wl.c2
      have f2 := HO.out.wl.fr 2
      have HNM : Hid (n ≤ 999999999) := by
        show _ ≤ _
        by_cases h0 : n = 0
        · omega
        · exact (HNX.out n hn h0).2
      generalize rdB s.l x = B at *
      generalize hasE s.l x = E0 at *
      clear hx hcell e hn hkl
      have R10 : ∀ {w1 base a1 c1}, eB.Own w1 base (.slice a1 B.length c1) B → Calls Tryz.prog 31 #[.slice a1 B.length c1] w1 fun e w' => w1.grownBy w' none ∧ Rf10 w1 w' B e := fun ho => rread_own ho hBl
      have HS1 := HF.out.step x
      by_cases hl : last < n
      · have hli : (last : Int) < (n : Int) := by omega
        have HO1 : Hid (Opn W w G Z (wr.setCell ⟨rb, 2, none⟩ (.int .i64 (n : Int))) q rb fb s G c (.slice (some ⟨g, o, none⟩) N.length c3) N n (fd.getD ([], 0)).1 sz) := HO.out.lasts n
        have hc1 : (wr.setCell ⟨rb, 2, none⟩ (.int .i64 (n : Int))).cell? ⟨g, o + k, none⟩ = some (.string ⟨x.toArray⟩) := (set_other (by first | (simp; done) | (have := HO.out.ot.fa g rfl; simp; omega))).trans hcx
        have hmx : Hid (max last n = n) := by show _ = _; omega
        have RD1 := RD HO1.out
        have HPX : Hid (Opn W w G Z (wr.setCell ⟨rb, 2, none⟩ (.int .i64 (n : Int))) q rb fb s G c (.slice (some ⟨g, o, none⟩) N.length c3) N n (fd.getD ([], 0)).1 sz) := HO1
        by_cases hb : best < n
        · have hbi : (best : Int) < (n : Int) := by omega
          have hbd : decide ((best : Int) < (n : Int)) = true := by simpa using hbi
          have HW : Hid (whole s n = (rdF B).isSome) := by show _ = _; unfold whole; rw [← HBX.out (by omega)]
          cases hr : rdF B with
          | none =>
            have R10n : ∀ {w1 base a1 c1}, eB.Own w1 base (.slice a1 B.length c1) B → Calls Tryz.prog 31 #[.slice a1 B.length c1] w1 fun e w' => w1.grownBy w' none ∧ ∃ ad n c z, e = .returned (.agg #[.slice ad n c, .int .i64 z, .bool false]) := fun ho => (R10 ho).mono fun e w' ⟨g, ad, n, c, z, he, _⟩ => ⟨g, ad, n, c, z, by rw [he, hr]; rfl⟩
            have HF2 : Hid (Fnd s (N.take (k + 1)) n best fd) := by
              have := HS1.2 n HNN.out (fun e => by rw [HW.out, hr] at e; cases e.2)
              rw [← HTK.out, hmx.out] at this
              exact this
            clear HS1 R10 RD hr
            go_wp2_with (first
              | (go_at_call 30; (with_reducible refine (NU _).mono ?_); rintro e w5 ⟨rfl, ew⟩; replace ew := ew.symm; subst ew)
              | (go_at_call 25; (with_reducible refine RD1.mono ?_); rintro e w6 ⟨a6, c6, rfl, hO6, hg6⟩)
              | (go_at_call 31; (with_reducible refine (R10n hO6).mono ?_); rintro e w7 ⟨hg7, a7, n7, c7, z7, rfl⟩))
            rename_i K hK
            change K (Act.put _ (some 62) (Value.bool false)) w7
            refine hK _ _ ?_
            clear hK
            go_wp2_with fail
            go_roundw
            case rel => exact ⟨k + 1, n, best, fd, sz, Z, by omega, rfl, by go_num, (HPX.out.grown hg6).grown hg7, HF2, HS, ⟨by have := HB.out; have := HNM.out; omega, HB.out.2⟩⟩
            case measure => simp [intOf]; omega
          | some p =>
            obtain ⟨ls, r⟩ := p
            have R10s : ∀ {w1 base a1 c1}, eB.Own w1 base (.slice a1 B.length c1) B → Calls Tryz.prog 31 #[.slice a1 B.length c1] w1 fun e w' => w1.grownBy w' none ∧ ∃ ad n c, e = .returned (.agg #[.slice ad n c, .int .i64 ((B.length : Int) - (r : Int)), .bool true]) ∧ Ro w' w1.heap.size (.slice ad n c) ls (fun k => w1.heap.size ≤ k) := fun ho => (R10 ho).mono fun e w' ⟨g, ad, n, c, z, he, h2⟩ => ⟨g, ad, n, c, by rw [he, hr, (h2 ls r hr).1]; rfl, (h2 ls r hr).2⟩
            have HF2 : Hid (Fnd s (N.take (k + 1)) n n (some (ls, r))) := by
              have := HS1.1 n HNN.out ⟨hb, by rw [HW.out, hr]; rfl⟩
              rw [← HTK.out, hmx.out, ← HBX.out (by omega), hr] at this
              exact this
            have HZ : Hid (n ≠ 0 → (B.length : Int) - (r : Int) = ((rdB s.l (nm n)).length : Int) - ((r : Nat) : Int)) := fun h0 => by rw [← HBX.out h0]
            generalize (B.length : Int) - (r : Int) = z9 at *
            clear HS1 R10 RD hr
            go_wp2_with (first
              | (go_at_call 30; (with_reducible refine (NU _).mono ?_); rintro e w5 ⟨rfl, ew⟩; replace ew := ew.symm; subst ew)
              | (go_at_call 25; (with_reducible refine RD1.mono ?_); rintro e w6 ⟨a6, c6, rfl, hO6, hg6⟩)
              | (go_at_call 31; (with_reducible refine (R10s hO6).mono ?_); rintro e w7 ⟨hg7, a7, n7, c7, rfl, _⟩))
            rename_i K hK
            change K (Act.put _ (some 62) (Value.bool true)) w7
            refine hK _ _ ?_
            clear hK
            go_wp2_with (first
              | (go_at_call 31; (with_reducible refine (R10s (hO6.grown hg7)).mono ?_); rintro e w8 ⟨hg8, a8, n8, c8, rfl, hR8⟩; have O8 := ((HPX.out.grown hg6).grown hg7).grown hg8; obtain ⟨v8, y0, _, _⟩ := O8.ot.b0; have y1 := O8.ot.b1; obtain ⟨u8, y2⟩ := O8.ot.b2; have yf := O8.ot.ff; clear O8))
            go_roundw
            case rel => exact ⟨k + 1, n, n, some (ls, r), z9, w8.heap.size, by omega, rfl, by go_num, ((HPX.out.grown hg6).grown hg7).found hlt hg8 (Nat.le_refl _) hR8, HF2, HZ, ⟨by have := HB.out; have := HNM.out; omega, HNM.out⟩⟩
            case measure => simp [intOf]; omega
        · have hbi : ¬ (best : Int) < (n : Int) := by omega
          have hbd : decide ((best : Int) < (n : Int)) = false := by simpa using hbi
          have HF2 : Hid (Fnd s (N.take (k + 1)) n best fd) := by
            have := HS1.2 n HNN.out (fun e => hb e.1)
            rw [← HTK.out, hmx.out] at this
            exact this
          clear HS1 R10 RD
          go_wp2_with (first
            | (go_at_call 30; (with_reducible refine (NU _).mono ?_); rintro e w5 ⟨rfl, ew⟩; replace ew := ew.symm; subst ew)
            | (go_at_call 25; (with_reducible refine RD1.mono ?_); rintro e w6 ⟨a6, c6, rfl, hO6, hg6⟩))
          go_roundw
          case rel => exact ⟨k + 1, n, best, fd, sz, Z, by omega, rfl, by go_num, HPX.out.grown hg6, HF2, HS, ⟨by have := HB.out; have := HNM.out; omega, HB.out.2⟩⟩
          case measure => simp [intOf]; omega
      · have hli : ¬ (last : Int) < (n : Int) := by omega
        have hmx : Hid (max last n = last) := by show _ = _; omega
        have RD1 := RD HO.out
        have HPX : Hid (Opn W w G Z wr q rb fb s G c (.slice (some ⟨g, o, none⟩) N.length c3) N last (fd.getD ([], 0)).1 sz) := HO
        by_cases hb : best < n
        · have hbi : (best : Int) < (n : Int) := by omega
          have hbd : decide ((best : Int) < (n : Int)) = true := by simpa using hbi
          have HW : Hid (whole s n = (rdF B).isSome) := by show _ = _; unfold whole; rw [← HBX.out (by omega)]
          cases hr : rdF B with
          | none =>
            have R10n : ∀ {w1 base a1 c1}, eB.Own w1 base (.slice a1 B.length c1) B → Calls Tryz.prog 31 #[.slice a1 B.length c1] w1 fun e w' => w1.grownBy w' none ∧ ∃ ad n c z, e = .returned (.agg #[.slice ad n c, .int .i64 z, .bool false]) := fun ho => (R10 ho).mono fun e w' ⟨g, ad, n, c, z, he, _⟩ => ⟨g, ad, n, c, z, by rw [he, hr]; rfl⟩
            have HF2 : Hid (Fnd s (N.take (k + 1)) last best fd) := by
              have := HS1.2 n HNN.out (fun e => by rw [HW.out, hr] at e; cases e.2)
              rw [← HTK.out, hmx.out] at this
              exact this
            clear HS1 R10 RD hr
            go_wp2_with (first
              | (go_at_call 30; (with_reducible refine (NU _).mono ?_); rintro e w5 ⟨rfl, ew⟩; replace ew := ew.symm; subst ew)
              | (go_at_call 25; (with_reducible refine RD1.mono ?_); rintro e w6 ⟨a6, c6, rfl, hO6, hg6⟩)
              | (go_at_call 31; (with_reducible refine (R10n hO6).mono ?_); rintro e w7 ⟨hg7, a7, n7, c7, z7, rfl⟩))
            rename_i K hK
            change K (Act.put _ (some 62) (Value.bool false)) w7
            refine hK _ _ ?_
            clear hK
            go_wp2_with fail
            go_roundw
            case rel => exact ⟨k + 1, last, best, fd, sz, Z, by omega, rfl, by go_num, (HPX.out.grown hg6).grown hg7, HF2, HS, ⟨by have := HB.out; have := HNM.out; omega, HB.out.2⟩⟩
            case measure => simp [intOf]; omega
          | some p =>
            obtain ⟨ls, r⟩ := p
            have R10s : ∀ {w1 base a1 c1}, eB.Own w1 base (.slice a1 B.length c1) B → Calls Tryz.prog 31 #[.slice a1 B.length c1] w1 fun e w' => w1.grownBy w' none ∧ ∃ ad n c, e = .returned (.agg #[.slice ad n c, .int .i64 ((B.length : Int) - (r : Int)), .bool true]) ∧ Ro w' w1.heap.size (.slice ad n c) ls (fun k => w1.heap.size ≤ k) := fun ho => (R10 ho).mono fun e w' ⟨g, ad, n, c, z, he, h2⟩ => ⟨g, ad, n, c, by rw [he, hr, (h2 ls r hr).1]; rfl, (h2 ls r hr).2⟩
            have HF2 : Hid (Fnd s (N.take (k + 1)) last n (some (ls, r))) := by
              have := HS1.1 n HNN.out ⟨hb, by rw [HW.out, hr]; rfl⟩
              rw [← HTK.out, hmx.out, ← HBX.out (by omega), hr] at this
              exact this
            have HZ : Hid (n ≠ 0 → (B.length : Int) - (r : Int) = ((rdB s.l (nm n)).length : Int) - ((r : Nat) : Int)) := fun h0 => by rw [← HBX.out h0]
            generalize (B.length : Int) - (r : Int) = z9 at *
            clear HS1 R10 RD hr
            go_wp2_with (first
              | (go_at_call 30; (with_reducible refine (NU _).mono ?_); rintro e w5 ⟨rfl, ew⟩; replace ew := ew.symm; subst ew)
              | (go_at_call 25; (with_reducible refine RD1.mono ?_); rintro e w6 ⟨a6, c6, rfl, hO6, hg6⟩)
              | (go_at_call 31; (with_reducible refine (R10s hO6).mono ?_); rintro e w7 ⟨hg7, a7, n7, c7, rfl, _⟩))
            rename_i K hK
            change K (Act.put _ (some 62) (Value.bool true)) w7
            refine hK _ _ ?_
            clear hK
            go_wp2_with (first
              | (go_at_call 31; (with_reducible refine (R10s (hO6.grown hg7)).mono ?_); rintro e w8 ⟨hg8, a8, n8, c8, rfl, hR8⟩; have O8 := ((HPX.out.grown hg6).grown hg7).grown hg8; obtain ⟨v8, y0, _, _⟩ := O8.ot.b0; have y1 := O8.ot.b1; obtain ⟨u8, y2⟩ := O8.ot.b2; have yf := O8.ot.ff; clear O8))
            go_roundw
            case rel => exact ⟨k + 1, last, n, some (ls, r), z9, w8.heap.size, by omega, rfl, by go_num, ((HPX.out.grown hg6).grown hg7).found hlt hg8 (Nat.le_refl _) hR8, HF2, HZ, ⟨by have := HB.out; have := HNM.out; omega, HNM.out⟩⟩
            case measure => simp [intOf]; omega
        · have hbi : ¬ (best : Int) < (n : Int) := by omega
          have hbd : decide ((best : Int) < (n : Int)) = false := by simpa using hbi
          have HF2 : Hid (Fnd s (N.take (k + 1)) last best fd) := by
            have := HS1.2 n HNN.out (fun e => hb e.1)
            rw [← HTK.out, hmx.out] at this
            exact this
          clear HS1 R10 RD
          go_wp2_with (first
            | (go_at_call 30; (with_reducible refine (NU _).mono ?_); rintro e w5 ⟨rfl, ew⟩; replace ew := ew.symm; subst ew)
            | (go_at_call 25; (with_reducible refine RD1.mono ?_); rintro e w6 ⟨a6, c6, rfl, hO6, hg6⟩))
          go_roundw
          case rel => exact ⟨k + 1, last, best, fd, sz, Z, by omega, rfl, by go_num, HPX.out.grown hg6, HF2, HS, ⟨by have := HB.out; have := HNM.out; omega, HB.out.2⟩⟩
          case measure => simp [intOf]; omega
    · obtain rfl : k = N.length := by omega
      have hni : ¬ (N.length : Int) < (N.length : Int) := by omega
      have HFN : Hid (Fnd s N last best fd) := by have := HF.out; rw [List.take_length] at this; exact this
      have HP0 : Hid (Opn W w G Z wr q rb fb (partS s best []) G c (.slice a3 N.length c3) N last (fd.getD ([], 0)).1 sz) := by have := HO.out; rw [← partS_nil s best] at this; exact this
      clear HF HO
      go_wp2
      go_loopw [12] (fun i w9 => ∃ (k : Nat) (G2 : Nat → Prop), k ≤ N.length ∧ i = .int .i64 (k : Int) ∧ Hid (Opn W w G Z w9 q rb fb (partS s best (N.take k)) G2 c (.slice a3 N.length c3) N last (fd.getD ([], 0)).1 sz)) (fun i _ => N.length - (intOf i).toNat)
      case atStart => exact ⟨0, G, Nat.zero_le _, rfl, HP0⟩
      case round =>
        obtain ⟨k, G2, hk, rfl, HQ⟩ := hrel
        clear HP0
        by_cases hkl : k < N.length
        · have hkli : (k : Int) < (N.length : Int) := by omega
          obtain ⟨x, hx⟩ : ∃ x, N[k]? = some x := ⟨_, List.getElem?_eq_getElem hkl⟩
          have hxm := hNm x (List.mem_of_getElem? hx)
          obtain ⟨g, o, cc, ev, hcell⟩ := HQ.out.ot.fo.rx.at_ hx
          injection ev with e1 e2 e3
          subst e1 e3
          clear e2
          have e : eS.size = 1 := rfl
          have hcx : wr.cell? ⟨g, o + k, none⟩ = some (.string ⟨x.toArray⟩) := by
            have := hcell 0 _ rfl
            rw [e, Nat.mul_one, Nat.add_zero] at this
            exact this
          have HTK : Hid (N.take (k + 1) = N.take k ++ [x]) := by show _ = _; rw [List.take_add_one, hx]; rfl
          obtain ⟨n, hn⟩ : ∃ n, (nOf x).getD 0 = n := ⟨_, rfl⟩
          obtain ⟨Y, hY⟩ : ∃ Y : Int, Y = (n : Int) := ⟨_, rfl⟩
          have NU : ∀ w1 : World, Calls Tryz.prog 30 #[.string ⟨x.toArray⟩] w1 fun e w' => e = .returned (.int .i64 Y) ∧ w' = w1 := fun w1 => by rw [hY, ← hn]; exact rnumber_any x (by omega) w1
          have hbad := bad_eq best x
          rw [hn] at hbad
          have RM := rs_rem HQ.out.wl.rs (by omega) x
          have HRT : Hid (bad best x = true → remS (partS s best (N.take k)) x = partS s best (N.take (k + 1))) := fun hb => by rw [HTK.out]; exact partS_rem s best _ x hb
          have HRN : Hid (bad best x = false → partS s best (N.take k) = partS s best (N.take (k + 1))) := fun hb => by rw [HTK.out]; exact partS_not s best _ x hb
          clear hx hcell e hn hkl
          by_cases hz : 0 < Y
          · have hzd : decide (0 < Y) = true := by simpa using hz
            by_cases hzb : Y = (best : Int)
            · have q1 : (Y == (best : Int)) = true := by simpa using hzb
              have q2 : (Y != (best : Int)) = false := by simpa using hzb
              have HE : Hid (bad best x = false) := by show _ = _; rw [hbad]; have : n = best := by omega
                                                       simp [this]
              clear hbad RM hY hzb
              go_wp2_with (go_at_call 30; (with_reducible refine (NU _).mono ?_); rintro e w5 ⟨rfl, ew⟩; replace ew := ew.symm; subst ew)
              go_roundw
              case rel => exact ⟨k + 1, G2, by omega, by go_num, by have := HQ.out; rw [HRN.out HE.out] at this; exact this⟩
              case measure => simp [intOf]; omega
            · have q1 : (Y == (best : Int)) = false := by simpa using hzb
              have q2 : (Y != (best : Int)) = true := by simpa using hzb
              have HE : Hid (bad best x = true) := by show _ = _; rw [hbad]; have h1 : 0 < n := by omega
                                                      have h2 : n ≠ best := by omega
                                                      simp [h1, h2]
              clear hbad hY hzb
              go_wp2_with (first
                | (go_at_call 30; (with_reducible refine (NU _).mono ?_); rintro e w5 ⟨rfl, ew⟩; replace ew := ew.symm; subst ew)
                | (go_at_call 32; (with_reducible refine RM.mono ?_); rintro e w6 ⟨rfl, G6, r1, r2, r3⟩))
              go_roundw
              case rel => exact ⟨k + 1, G6, by omega, by go_num, by have := HQ.out.disk r1 r2 r3; rw [HRT.out HE.out] at this; exact this⟩
              case measure => simp [intOf]; omega
          · have hzd : decide (0 < Y) = false := by simpa using hz
            have HE : Hid (bad best x = false) := by show _ = _; rw [hbad]; have : n = 0 := by omega
                                                     simp [this]
            clear hbad RM hY
            go_wp2_with (go_at_call 30; (with_reducible refine (NU _).mono ?_); rintro e w5 ⟨rfl, ew⟩; replace ew := ew.symm; subst ew)
            go_roundw
            case rel => exact ⟨k + 1, G2, by omega, by go_num, by have := HQ.out; rw [HRN.out HE.out] at this; exact this⟩
            case measure => simp [intOf]; omega
        · obtain rfl : k = N.length := by omega
          have HPA : Hid (partS s best N = pickS s best) := by show _ = _; rw [← HN.out]; exact partS_all s best
          have HQ1 : Hid (Opn W w G Z wr q rb fb (pickS s best) G2 c (.slice a3 N.length c3) N last (fd.getD ([], 0)).1 sz) := by have := HQ.out; rw [List.take_length, HPA.out] at this; exact this
          have HC : Hid (chooseC s = ⟨pickS s best, if best = 0 then [] else nm best, last, (fd.getD ([], 0)).1, (fd.getD ([], 0)).2⟩) := by
            have h1 := HFN.out
            rw [← HN.out] at h1
            exact choose_found HOK.out h1
          have hco := choose_ok HOK.out
          rw [HC.out] at hco
          have HFT : Hid (long (fd.getD ([], 0)).1 = false) := fit_long hco.fit
          have hLS : (fd.getD ([], 0)).1.length ≤ 1048576 := hco.len
          have HPK : Hid (Ok (pickS s best)) := hco.ok
          have HRB : Hid (best ≠ 0 → rdB (pickS s best).l (nm best) = rdB s.l (nm best)) := fun h0 => rdB_pick HOK.out (by omega) HB.out.2
          clear HFN HQ HPA hco
          generalize (fd.getD ([], 0)).1 = LS at *
          generalize (fd.getD ([], 0)).2 = RR at *
          obtain ⟨v, hv, _⟩ := HQ1.out.ot.b0
          obtain ⟨hW, hCh, ⟨ad, cp, rfl⟩, y1, y0, hRl, y3, hob⟩ := HQ1.out.hold best hv
          have HOB : Hid (∀ j, (Value.slice ad LS.length cp).ownBlock = some j → w.heap.size ≤ j) := hob
          clear hob
          have m1 := HQ1.out.wl.c1
          have f1 := HQ1.out.wl.fr 1
          have f3 := HQ1.out.wl.fr 3
          have k0 : (wr.setCell ⟨rb, 1, none⟩ (.int .i64 (best : Int))).cell? ⟨fb, 0, none⟩ = some (.slice ad LS.length cp) := (set_other (by first | (simp; done) | (have := HQ1.out.ot.lb; simp; omega))).trans hv
          have k3 : (wr.setCell ⟨rb, 1, none⟩ (.int .i64 (best : Int))).cell? ⟨rb, 3, none⟩ = some (.slice none 0 0) := (set_other (by simp)).trans HQ1.out.c3
          have HGG : Hid (∀ k, G2 k → G k ∨ w.heap.size ≤ k) := HQ1.out.gg
          have HGA : Hid (∀ k, G2 k → k < w.heap.size ∨ Z ≤ k) := HQ1.out.ga
          have HWW : Hid (Wr W ((wr.setCell ⟨rb, 1, none⟩ (.int .i64 (best : Int))).setCell ⟨rb, 3, none⟩ (.slice ad LS.length cp)) q rb (pickS s best) G2 c best last LS.length) := hW
          have HCC : Hid (Chg G w ((wr.setCell ⟨rb, 1, none⟩ (.int .i64 (best : Int))).setCell ⟨rb, 3, none⟩ (.slice ad LS.length cp))) := hCh
          have HRL : Hid (Rl ((wr.setCell ⟨rb, 1, none⟩ (.int .i64 (best : Int))).setCell ⟨rb, 3, none⟩ (.slice ad LS.length cp)) (.slice ad LS.length cp) LS (fun k => w.heap.size ≤ k ∧ k < Z ∧ k ≠ rb)) := hRl
          clear HQ1 hW hCh hRl hNm
          go_upto_region 23 with fail
          generalize (wr.setCell ⟨rb, 1, none⟩ (.int .i64 (best : Int))).setCell ⟨rb, 3, none⟩ (.slice ad LS.length cp) = w2 at *
          have hLY : ∀ {w5 : World}, w2.grownBy w5 none → ∀ {T : St}, (T = if best = 0 then (layS (pickS s best) (nm (last + 1)) LS).1 else remS (layS (pickS s best) (nm (last + 1)) LS).1 (nm best)) → _ := fun {w5} g5 {T} hT => rlay_fit (T := T) (HWW.out.grown g5) (.slice ad LS.length cp) LS (HRL.out.grown g5) (fun k hk e => by rcases e with e | e; (rcases HGA.out k e with e | e <;> omega); exact hk.2.2 e) hLS HFT.out (by omega) HB.out.1 HB.out.2 hT
          have ON : Hid ((best = 0 ∨ RR ≠ 0) → (last = 999999999 ∨ (layS (pickS s best) (nm (last + 1)) LS).2 = false) → openR s = none) := fun h1 h2 => by
            unfold openR
            rw [HC.out]
            simp only
            rw [if_neg (fun e => by rcases h1 with h1 | h1; (exact e.1 (if_pos h1)); exact h1 e.2)]
            rcases h2 with h2 | h2
            · rw [if_pos h2]
            · rw [if_neg (c := (layS (pickS s best) (nm (last + 1)) LS).2 = true) (by rw [h2]; simp)]; simp
          have OY : Hid ((best = 0 ∨ RR ≠ 0) → last ≠ 999999999 → (layS (pickS s best) (nm (last + 1)) LS).2 = true → openR s = some (if best = 0 then (layS (pickS s best) (nm (last + 1)) LS).1 else remS (layS (pickS s best) (nm (last + 1)) LS).1 (nm best), nm (last + 1), last + 1, LS)) := fun h1 h2 h3 => by
            unfold openR
            rw [HC.out]
            simp only
            rw [if_neg (fun e => by rcases h1 with h1 | h1; (exact e.1 (if_pos h1)); exact h1 e.2), if_neg h2, if_pos h3]
            by_cases h0 : best = 0
            · rw [if_pos h0, if_pos h0, remS_empty (layS_ok HPK.out _ _)]
            · rw [if_neg h0, if_neg h0]
          have OS : Hid (best ≠ 0 → RR = 0 → openR s = some (pickS s best, nm best, last, LS)) := fun h0 h1 => by
            unfold openR
            rw [HC.out]
            simp only [if_neg h0]
            rw [if_pos ⟨nm_ne best, h1⟩]
          have LN : (best = 0 ∨ RR ≠ 0) → (last = 999999999 ∨ (layS (pickS s best) (nm (last + 1)) LS).2 = false) → ∀ {w5 : World}, w2.grownBy w5 none → Calls Tryz.prog 17 #[.pointer (some ⟨rb, 0, none⟩), .slice ad LS.length cp] w5 fun e w' => e = .returned (.int .i64 3) ∧ Hid (OpR W w w' q s G c (.returned (.tuple #[.pointer none, .int .i64 3]))) := fun h1 h2 {w5} g5 => by
            refine (hLY g5 rfl).mono ?_
            rintro e w' (⟨rfl, b1, b2⟩ | ⟨rfl, b1, b2, G9, b3, b4, b5, v9, b6, b7, b8⟩)
            · exact ⟨rfl, .inl ⟨ON.out h1 b2, rfl, b1⟩⟩
            · rcases h2 with h2 | h2
              · exact absurd h2 b1
              · rw [h2] at b2; cases b2
          have LY : (best = 0 ∨ RR ≠ 0) → ¬ (last = 999999999 ∨ (layS (pickS s best) (nm (last + 1)) LS).2 = false) → ∀ {w5 : World}, w2.grownBy w5 none → Calls Tryz.prog 17 #[.pointer (some ⟨rb, 0, none⟩), .slice ad LS.length cp] w5 fun e w' => e = .returned (.int .i64 0) ∧ Hid (OpR W w w' q s G c (.returned (.tuple #[.pointer (some ⟨rb, 0, none⟩), .int .i64 0]))) := fun h1 h2 {w5} g5 => by
            refine (hLY g5 rfl).mono ?_
            rintro e w' (⟨rfl, b1, b2⟩ | ⟨rfl, b1, b2, G9, b3, b4, b5, v9, b6, b7, b8⟩)
            · exact absurd b2 h2
            · have C5 := HCC.out.trans (Chg.of (F := G) g5 (by simp)) fun _ hb => .inl hb
              have hz := C5.size
              refine ⟨rfl, .inr ⟨_, last + 1, last + 1, LS, rb, G9, _, OY.out h1 b1 b2, rfl, b3, by omega, hrw, fun k hk => ?_, C5.trans b5 fun k hk => ?_, by omega, by have := HB.out.1; omega, v9, _, b6, b7, fun k hk => ?_, fun j hj => by have := b8 j hj; have := g5.size; omega⟩⟩
              · rcases b4 k hk with e | e
                · exact HGG.out k e
                · exact .inr (by omega)
              · rcases hk with e | e
                · exact HGG.out k e
                · exact .inr (by omega)
              · rcases hk with e | e
                · exact e.1
                · omega
          have SA : best ≠ 0 → RR = 0 → ∀ {w5 : World}, w2.grownBy w5 none → Hid (OpR W w w5 q s G c (.returned (.tuple #[.pointer (some ⟨rb, 0, none⟩), .int .i64 0]))) := fun h0 h1 {w5} g5 => .inr ⟨_, best, last, LS, rb, G2, c, OS.out h0 h1, rfl, HWW.out.grown g5, by omega, hrw, HGG.out, HCC.out.trans (Chg.of (F := G) g5 (by simp)) fun _ hb => .inl hb, by omega, HB.out.2, _, _, g5.cell y3 (by simp), HRL.out.grown g5, fun k hk => hk.1, HOB.out⟩
          have HWR := HWW.out
          clear hLY HRL HCC HGG HGA ON OY OS HC HFT HPK HWW HOB
          obtain ⟨Y, hY⟩ : ∃ Y : Int, (best : Int) = Y := ⟨_, rfl⟩
          simp only [hY]
          by_cases h0 : best = 0
          · have hz : ¬ 0 < Y := by omega
            have hzd : decide (0 < Y) = false := by simpa using hz
            have L1 := LN (.inl h0)
            have L2 := LY (.inl h0)
            clear LN LY SA HWR hY h0 HRB
            by_cases hf : last = 999999999 ∨ (layS (pickS s best) (nm (last + 1)) LS).2 = false
            · have L := L1 hf (grown_refl w2 none)
              clear L1 L2 hf
              go_wp2_with (go_at_call 17; (with_reducible refine L.mono ?_); rintro e w6 ⟨rfl, hO⟩)
              go_ret2
              exact hO.out
            · have L := L2 hf (grown_refl w2 none)
              clear L1 L2 hf
              go_wp2_with (go_at_call 17; (with_reducible refine L.mono ?_); rintro e w6 ⟨rfl, hO⟩)
              go_ret2
              exact hO.out
          · have hz : 0 < Y := by omega
            have hzd : decide (0 < Y) = true := by simpa using hz
            have NA : Calls Tryz.prog 26 #[.int .i64 Y] w2 fun e w' => e = .returned (.string ⟨(nm best).toArray⟩) ∧ w2.grownBy w' none := by rw [← hY]; exact rname_any best (by omega) (by have := HB.out.2; omega) w2
            have hsz : sz = ((rdB (pickS s best).l (nm best)).length : Int) - (RR : Int) := by rw [HRB.out h0]; exact HS.out h0
            have RE : ∀ {w5 : World}, w2.grownBy w5 none → _ := fun {w5} g5 => rs_read (HWR.grown g5).rs (by omega) (nm best)
            generalize (rdB (pickS s best).l (nm best)).length = BL at *
            generalize hasE (pickS s best).l (nm best) = E9 at *
            clear HWR hY HRB HS
            by_cases hr : RR = 0
            · have q1 : (sz == (BL : Int)) = true := by rw [hsz, hr]; simp
              have S := fun {w5 : World} (g : w2.grownBy w5 none) => SA h0 hr g
              clear LN LY SA hsz h0 hr
              go_wp2_with (first
                | (go_at_call 26; (with_reducible refine NA.mono ?_); rintro e w5 ⟨rfl, hg5⟩)
                | (go_at_call 25; (with_reducible refine (RE hg5).mono ?_); rintro e w6 ⟨a6, c6, rfl, _, hg6⟩; have g6 : w2.grownBy w6 none := grown_more hg5 hg6 (by simp); have z1 := g6.cell y1 (by simp); have hO := S g6))
              go_ret2
              exact hO.out
            · have q1 : (sz == (BL : Int)) = false := by rw [hsz]; simp; omega
              have L1 := LN (.inr hr)
              have L2 := LY (.inr hr)
              clear LN LY SA hsz h0 hr
              by_cases hf : last = 999999999 ∨ (layS (pickS s best) (nm (last + 1)) LS).2 = false
              · have L := fun {w5 : World} (g : w2.grownBy w5 none) => L1 hf g
                clear L1 L2 hf
                go_wp2_with (first
                  | (go_at_call 26; (with_reducible refine NA.mono ?_); rintro e w5 ⟨rfl, hg5⟩)
                  | (go_at_call 25; (with_reducible refine (RE hg5).mono ?_); rintro e w6 ⟨a6, c6, rfl, _, hg6⟩; have g6 : w2.grownBy w6 none := grown_more hg5 hg6 (by simp); have z1 := g6.cell y1 (by simp); have z0 := g6.cell y0 (by simp))
                  | (go_at_call 17; (with_reducible refine (L g6).mono ?_); rintro e w7 ⟨rfl, hO⟩))
                go_ret2
                exact hO.out
              · have L := fun {w5 : World} (g : w2.grownBy w5 none) => L2 hf g
                clear L1 L2 hf
                go_wp2_with (first
                  | (go_at_call 26; (with_reducible refine NA.mono ?_); rintro e w5 ⟨rfl, hg5⟩)
                  | (go_at_call 25; (with_reducible refine (RE hg5).mono ?_); rintro e w6 ⟨a6, c6, rfl, _, hg6⟩; have g6 : w2.grownBy w6 none := grown_more hg5 hg6 (by simp); have z1 := g6.cell y1 (by simp); have z0 := g6.cell y0 (by simp))
                  | (go_at_call 17; (with_reducible refine (L g6).mono ?_); rintro e w7 ⟨rfl, hO⟩))
                go_ret2
                exact hO.out
end Go.Proofs.YtapdhkgeolcogaaGreatDoor
