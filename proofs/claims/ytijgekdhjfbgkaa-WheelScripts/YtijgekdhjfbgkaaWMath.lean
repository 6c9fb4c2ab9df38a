/- Items in their order; what a wheel answers, on lists; places: no program's run in this text. -/
namespace Go.Proofs.Ytijgekdhjfbgkaa.Whl
set_option linter.unusedVariables false
/-- An item: its Id and its instant. -/
abbrev It := Int × Int
/-- Whether a stands ahead of b. -/
def bef (a b : It) : Bool := decide (a.2 < b.2) || (decide (a.2 = b.2) && decide (a.1 < b.1))
theorem bef_iff {a b : It} : bef a b = true ↔ a.2 < b.2 ∨ (a.2 = b.2 ∧ a.1 < b.1) := by simp [bef]
theorem bef_irr (a : It) : bef a a = false := by
  cases h : bef a a with
  | false => rfl
  | true => rw [bef_iff] at h; omega
theorem bef_asym {a b : It} (h : bef a b = true) : bef b a = false := by
  cases k : bef b a with
  | false => rfl
  | true => rw [bef_iff] at h k; omega
theorem bef_trans {a b c : It} (h : bef a b = true) (k : bef b c = true) : bef a c = true := by rw [bef_iff] at *; omega
theorem bef_tot {a b : It} (h : bef a b = false) (k : bef b a = false) : a = b := by
  have h' : ¬ (a.2 < b.2 ∨ (a.2 = b.2 ∧ a.1 < b.1)) := fun x => by rw [bef_iff.2 x] at h; cases h
  have k' : ¬ (b.2 < a.2 ∨ (b.2 = a.2 ∧ b.1 < a.1)) := fun x => by rw [bef_iff.2 x] at k; cases k
  exact Prod.ext (by omega) (by omega)
/-- In order, strictly. -/
abbrev Srt (L : List It) : Prop := L.Pairwise fun a b => bef a b = true
/-- Two lists in order with the same items are one. -/
theorem srt_ext : ∀ {L M : List It}, Srt L → Srt M → (∀ a, a ∈ L ↔ a ∈ M) → L = M
  | [], [], _, _, _ => rfl
  | [], b :: M, _, _, h => absurd ((h b).2 (by simp)) (by simp)
  | a :: L, [], _, _, h => absurd ((h a).1 (by simp)) (by simp)
  | a :: L, b :: M, hL, hM, h => by
    obtain ⟨l1, l2⟩ := List.pairwise_cons.1 hL
    obtain ⟨m1, m2⟩ := List.pairwise_cons.1 hM
    have e : a = b := by
      rcases List.mem_cons.1 ((h a).1 (by simp)) with e | e
      · exact e
      · rcases List.mem_cons.1 ((h b).2 (by simp)) with f | f
        · exact f.symm
        · have := bef_asym (l1 b f); rw [m1 a e] at this; cases this
    subst e
    rw [srt_ext l2 m2 fun x => ⟨fun hx => ?_, fun hx => ?_⟩]
    · rcases List.mem_cons.1 ((h x).1 (by simp [hx])) with e | e
      · subst e; have := l1 x hx; rw [bef_irr] at this; cases this
      · exact e
    · rcases List.mem_cons.1 ((h x).2 (by simp [hx])) with e | e
      · subst e; have := m1 x hx; rw [bef_irr] at this; cases this
      · exact e
theorem srt_filter {L : List It} (h : Srt L) (p : It → Bool) : Srt (L.filter p) := List.Pairwise.filter p h
theorem srt_nodup {L : List It} (h : Srt L) : L.Nodup := List.Pairwise.imp (fun {a b} h e => by rw [e, bef_irr] at h; cases h) h
/-- An item put into its place. -/
def ins (i : It) (L : List It) : List It := L.filter (fun a => bef a i) ++ i :: L.filter (fun a => !bef a i)
theorem mem_ins {i a : It} {L : List It} : a ∈ ins i L ↔ a = i ∨ a ∈ L := by
  unfold ins
  rw [List.mem_append, List.mem_cons, List.mem_filter, List.mem_filter]
  constructor
  · rintro (h | h | h)
    · exact .inr h.1
    · exact .inl h
    · exact .inr h.1
  · rintro (h | h)
    · exact .inr (.inl h)
    · cases hb : bef a i
      · exact .inr (.inr ⟨h, by simp⟩)
      · exact .inl ⟨h, rfl⟩
theorem srt_ins {i : It} {L : List It} (h : Srt L) (hn : ∀ a ∈ L, a.1 ≠ i.1) : Srt (ins i L) := by
  unfold ins
  refine List.pairwise_append.2 ⟨srt_filter h _, List.pairwise_cons.2 ⟨fun a ha => ?_, srt_filter h _⟩, fun a ha b hb => ?_⟩
  · obtain ⟨h1, h2⟩ := List.mem_filter.1 ha
    cases k : bef i a with
    | true => rfl
    | false => exact absurd (congrArg Prod.fst (bef_tot k (by simpa using h2))).symm (hn a h1)
  · obtain ⟨h1, h2⟩ := List.mem_filter.1 ha
    rcases List.mem_cons.1 hb with e | e
    · rw [e]; exact h2
    · obtain ⟨k1, k2⟩ := List.mem_filter.1 e
      cases q : bef a b with
      | true => rfl
      | false =>
        cases q' : bef b a with
        | true => have := bef_trans q' h2; rw [this] at k2; cases k2
        | false => rw [bef_tot q q'] at h2; rw [h2] at k2; cases k2
theorem len_parts (p : It → Bool) : ∀ L : List It, (L.filter p).length + (L.filter fun a => !p a).length = L.length
  | [] => rfl
  | a :: L => by
    have := len_parts p L
    cases h : p a <;> simp [h] <;> omega
theorem len_ins (i : It) (L : List It) : (ins i L).length = L.length + 1 := by
  unfold ins
  have := len_parts (fun a => bef a i) L
  rw [List.length_append, List.length_cons]
  omega
/-- Each Id once. -/
def Uni (L : List It) : Prop := ∀ a ∈ L, ∀ b ∈ L, a.1 = b.1 → a = b
theorem uni_ins {i : It} {L : List It} (h : Uni L) (hn : ∀ a ∈ L, a.1 ≠ i.1) : Uni (ins i L) := by
  intro a ha b hb e
  rw [mem_ins] at ha hb
  rcases ha with ha | ha <;> rcases hb with hb | hb
  · rw [ha, hb]
  · rw [ha] at e; exact absurd e.symm (hn b hb)
  · rw [hb] at e; exact absurd e (hn a ha)
  · exact h a ha b hb e
theorem uni_filter {L : List It} (h : Uni L) (p : It → Bool) : Uni (L.filter p) := fun a ha b hb e => h a (List.mem_filter.1 ha).1 b (List.mem_filter.1 hb).1 e
/-- A wheel's now and items. -/
structure Ok (now : Int) (L : List It) : Prop where
  n0 : 0 ≤ now
  n1 : now ≤ 226157759
  srt : Srt L
  uni : Uni L
  lo : ∀ a ∈ L, now < a.2
  hi : ∀ a ∈ L, a.2 ≤ 226157759
  ids : ∀ a ∈ L, -9223372036854775808 ≤ a.1 ∧ a.1 ≤ 9223372036854775807
  len : L.length ≤ 4096
theorem Ok.new {now : Int} (h0 : 0 ≤ now) (h1 : now ≤ 226157759) : Ok now [] := ⟨h0, h1, List.Pairwise.nil, fun a h => by simp at h, by simp, by simp, by simp, by simp⟩
/-- What 'Insert' answers. -/
def insE (now : Int) (L : List It) (i : It) : Int :=
  if i.2 ≤ now ∨ 226157759 < i.2 ∨ 262144 < i.2 - now then 30 else if L.any (fun a => a.1 == i.1) then 150 else if L.length = 4096 then 3 else 0
/-- The items behind it. -/
def insL (now : Int) (L : List It) (i : It) : List It := if insE now L i = 0 then ins i L else L
theorem any_id {L : List It} {i : Int} (h : L.any (fun a => a.1 == i) = false) : ∀ a ∈ L, a.1 ≠ i := by
  intro a ha e
  have := List.any_eq_false.1 h a ha
  simp [e] at this
theorem insE_zero {now : Int} {L : List It} {i : It} (h : insE now L i = 0) : now < i.2 ∧ i.2 ≤ 226157759 ∧ (∀ a ∈ L, a.1 ≠ i.1) ∧ L.length ≠ 4096 := by
  unfold insE at h
  split at h
  · cases h
  · split at h
    · cases h
    · rename_i h1 h2
      split at h
      · cases h
      · exact ⟨by omega, by omega, any_id (Bool.eq_false_iff.2 h2), by assumption⟩
theorem Ok.ins {now : Int} {L : List It} (h : Ok now L) (i : It) (hi : -9223372036854775808 ≤ i.1 ∧ i.1 ≤ 9223372036854775807) : Ok now (insL now L i) := by
  unfold insL
  split
  · rename_i e
    obtain ⟨h1, h2, h3, h4⟩ := insE_zero e
    refine ⟨h.n0, h.n1, srt_ins h.srt h3, uni_ins h.uni h3, fun a ha => ?_, fun a ha => ?_, fun a ha => ?_, by rw [len_ins]; have := h.len; omega⟩
    · rcases mem_ins.1 ha with e | e
      · rw [e]; exact h1
      · exact h.lo a e
    · rcases mem_ins.1 ha with e | e
      · rw [e]; exact h2
      · exact h.hi a e
    · rcases mem_ins.1 ha with e | e
      · rw [e]; exact hi
      · exact h.ids a e
  · exact h
theorem Ok.filter {now now' : Int} {L : List It} (h : Ok now L) (p : It → Bool) (h0 : 0 ≤ now') (h1 : now' ≤ 226157759) (hp : ∀ a ∈ L, p a = true → now' < a.2) : Ok now' (L.filter p) :=
  ⟨h0, h1, srt_filter h.srt p, uni_filter h.uni p, fun a ha => hp a (List.mem_filter.1 ha).1 (List.mem_filter.1 ha).2, fun a ha => h.hi a (List.mem_filter.1 ha).1, fun a ha => h.ids a (List.mem_filter.1 ha).1, Nat.le_trans (List.length_filter_le _ _) h.len⟩
/-- The items that are due by an instant; those that aren't. -/
def dueL (to : Int) (L : List It) : List It := L.filter fun a => decide (a.2 ≤ to)
def restL (to : Int) (L : List It) : List It := L.filter fun a => decide (to < a.2)
/-- The items but one. -/
def dropL (id : Int) (L : List It) : List It := L.filter fun a => a.1 != id
theorem Ok.adv {now to : Int} {L : List It} (h : Ok now L) (h0 : now ≤ to) (h1 : to ≤ 226157759) : Ok to (restL to L) := h.filter _ (by have := h.n0; omega) h1 (fun a _ hp => by simpa using hp)
theorem Ok.drop {now : Int} {L : List It} (h : Ok now L) (id : Int) : Ok now (dropL id L) := h.filter _ h.n0 h.n1 (fun a ha _ => h.lo a ha)
/-- The place of an instant. -/
def plc (now t : Nat) : Nat := if now / 64 = t / 64 then t % 64 else if now / 4096 = t / 4096 then 64 + t / 64 % 64 else if now / 262144 = t / 262144 then 128 + t / 4096 % 64 else 192
theorem plc_lt (now t : Nat) : plc now t < 193 := by unfold plc; split <;> (try split) <;> (try split) <;> omega
/-- What lies in an earlier place is due. -/
theorem plc_due {now t to : Nat} (h1 : now < t) (h2 : now ≤ to) (h : plc now t < plc now to) : t ≤ to := by
  unfold plc at h
  split at h <;> split at h <;> (try split at h) <;> (try split at h) <;> (try split at h) <;> (try split at h) <;> omega
/-- What lies in a later place isn't due, and stays where it is. -/
theorem plc_stay {now t to : Nat} (h1 : now < t) (h2 : now ≤ to) (h : plc now to < plc now t) : to < t ∧ plc to t = plc now t := by
  unfold plc at h ⊢
  split at h <;> split at h <;> (try split at h) <;> (try split at h) <;> (try split at h) <;> (try split at h) <;> (refine ⟨by omega, ?_⟩) <;> (repeat' split) <;> omega
theorem xor_zero {a b : Nat} : a ^^^ b = 0 ↔ a = b := by
  constructor
  · intro h
    refine Nat.eq_of_testBit_eq fun i => ?_
    have := congrArg (fun x => Nat.testBit x i) h
    simpa [Nat.testBit_xor] using this
  · intro h
    rw [h, Nat.xor_self]
theorem xor_lt {a b k : Nat} : (a ^^^ b) / 2 ^ k = 0 ↔ a / 2 ^ k = b / 2 ^ k := by
  rw [← Nat.shiftRight_eq_div_pow, ← Nat.shiftRight_eq_div_pow, ← Nat.shiftRight_eq_div_pow, Nat.shiftRight_xor_distrib]
  exact xor_zero
end Go.Proofs.Ytijgekdhjfbgkaa.Whl
