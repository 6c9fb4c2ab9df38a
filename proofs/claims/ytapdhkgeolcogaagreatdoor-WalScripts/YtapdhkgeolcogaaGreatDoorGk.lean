/- Disks, as lists of files: what each call makes of one. -/
namespace Go.Proofs.YtapdhkgeolcogaaGreatDoor.Dsk
set_option linter.unusedVariables false

/-- A file: its bytes, and the writes that wait (number, size). -/
structure Fl where
  by_ : List UInt8
  ws : List (Int × Nat)
/-- The files by their names. -/
abbrev Ds := List (List UInt8 × Fl)
/-- A disk: its files, how many writes there were. -/
structure St where
  l : Ds
  m : Int
def isB (c : UInt8) : Bool := 97 ≤ c && c ≤ 122 || 48 ≤ c && c ≤ 57 || c == 45 || c == 46
def isNm (s : List UInt8) : Bool := decide (1 ≤ s.length) && decide (s.length ≤ 16) && s.all isB
def has (L : Ds) (nm : List UInt8) : Bool := L.any fun p => p.1 == nm
def setF (L : Ds) (nm : List UInt8) (g : Fl → Fl) : Ds := L.map fun p => if p.1 = nm then (p.1, g p.2) else p
def tot (L : Ds) : Nat := (L.map fun p => p.2.by_.length).sum
def wait (L : Ds) : Nat := (L.map fun p => p.2.ws.length).sum
def nums (L : Ds) : List Int := L.flatMap fun p => p.2.ws.map (·.1)
def sz (f : Fl) : Nat := (f.ws.map (·.2)).sum
def stays (nx torn : Int) (p : Int × Nat) : Nat := if p.1 < nx then p.2 else if nx < p.1 then 0 else min torn.toNat p.2
def lost (nx torn : Int) (ws : List (Int × Nat)) : Nat := (ws.map fun p => p.2 - stays nx torn p).sum
def Fl.crash (nx torn : Int) (f : Fl) : Fl := ⟨f.by_.take (f.by_.length - lost nx torn f.ws), []⟩
def sorted (l : List Int) : List Int := l.mergeSort fun x y => decide (x ≤ y)
def behind (s : St) (keep : Nat) : Int := if (nums s.l).length ≤ keep then s.m else (sorted (nums s.l)).getD keep 0
def appE (L : Ds) (nm : List UInt8) (n : Nat) : Int := if isNm nm = false then 1 else if (has L nm = false ∧ L.length = 64) ∨ 1048576 < tot L + n then 3 else 0
def appF (m : Int) (b : List UInt8) (f : Fl) : Fl := ⟨f.by_ ++ b, f.ws ++ [(m, b.length)]⟩
def appS (s : St) (nm b : List UInt8) : St := if appE s.l nm b.length = 0 then ⟨if has s.l nm = true then setF s.l nm (appF s.m b) else s.l ++ [(nm, appF s.m b ⟨[], []⟩)], s.m + 1⟩ else s
def hasE (L : Ds) (nm : List UInt8) : Int := if has L nm = true then 0 else 80
def syncS (s : St) (nm : List UInt8) : St := ⟨setF s.l nm fun f => ⟨f.by_, []⟩, s.m⟩
def remS (s : St) (nm : List UInt8) : St := ⟨s.l.filter fun p => p.1 != nm, s.m⟩
def rdB (L : Ds) (nm : List UInt8) : List UInt8 := match L.lookup nm with | some f => f.by_ | none => []
def crashS (s : St) (keep torn : Int) : St := ⟨s.l.map fun p => (p.1, p.2.crash (behind s keep.toNat) torn), s.m⟩
def nmsOf (L : Ds) : List (List UInt8) := (L.map (·.1)).mergeSort fun x y => decide (x ≤ y)
def newS : St := ⟨[], 0⟩

/-- What holds of a disk at every time. -/
structure Ok (s : St) : Prop where
  nd : (s.l.map (·.1)).Nodup
  len : s.l.length ≤ 64
  tot : tot s.l ≤ 1048576
  sz : ∀ p ∈ s.l, sz p.2 ≤ p.2.by_.length
  num : ∀ x ∈ nums s.l, 0 ≤ x ∧ x < s.m
  nn : (nums s.l).Nodup
  m0 : 0 ≤ s.m
  nm : ∀ p ∈ s.l, isNm p.1 = true
theorem ok_new : Ok newS := ⟨by simp [newS], by simp [newS], by simp [newS, Dsk.tot], by simp [newS], by simp [newS, nums], by simp [newS, nums], by simp [newS], by simp [newS]⟩

theorem has_iff {L : Ds} {nm : List UInt8} : has L nm = true ↔ ∃ f, (nm, f) ∈ L := by
  unfold has
  rw [List.any_eq_true]
  constructor
  · rintro ⟨p, hp, h⟩
    have : p.1 = nm := by simpa using h
    exact ⟨p.2, by rw [← this]; exact hp⟩
  · rintro ⟨f, hf⟩
    exact ⟨_, hf, by simp⟩
theorem has_not {L : Ds} {nm : List UInt8} (h : has L nm = false) : ∀ p ∈ L, p.1 ≠ nm := by
  intro p hp e
  have : has L nm = true := has_iff.2 ⟨p.2, by rw [← e]; exact hp⟩
  rw [h] at this
  cases this
theorem lookup_mem : ∀ {L : Ds} {nm : List UInt8} {f : Fl}, (L.map (·.1)).Nodup → (nm, f) ∈ L → L.lookup nm = some f
  | [], _, _, _, h => by simp at h
  | p :: L, nm, f, hn, h => by
    rw [List.map_cons, List.nodup_cons] at hn
    obtain ⟨a, g⟩ := p
    rcases List.mem_cons.1 h with e | e
    · cases e
      simp [List.lookup]
    · have : ¬ nm = a := fun c => hn.1 (List.mem_map.2 ⟨(nm, f), e, c⟩)
      have h2 : (nm == a) = false := by simpa using this
      simp only [List.lookup, h2]
      exact lookup_mem hn.2 e
theorem lookup_not {L : Ds} {nm : List UInt8} (h : has L nm = false) : L.lookup nm = none := by
  rw [List.lookup_eq_none_iff]
  intro p hp
  have := has_not h p hp
  simpa using fun c => this c.symm
theorem rdB_mem {L : Ds} {nm : List UInt8} {f : Fl} (hn : (L.map (·.1)).Nodup) (h : (nm, f) ∈ L) : rdB L nm = f.by_ := by unfold rdB; rw [lookup_mem hn h]
theorem rdB_not {L : Ds} {nm : List UInt8} (h : has L nm = false) : rdB L nm = [] := by unfold rdB; rw [lookup_not h]

theorem setF_keys (L : Ds) (nm : List UInt8) (g : Fl → Fl) : (setF L nm g).map (·.1) = L.map (·.1) := by
  unfold setF
  rw [List.map_map]
  refine List.map_congr_left fun p _ => ?_
  simp only [Function.comp]
  split <;> rfl
theorem has_setF (L : Ds) (nm n : List UInt8) (g : Fl → Fl) : has (setF L nm g) n = has L n := by
  have h : ∀ M : Ds, has M n = (M.map (·.1)).any (· == n) := fun M => by unfold has; rw [List.any_map]; rfl
  rw [h, h, setF_keys]
theorem setF_len (L : Ds) (nm : List UInt8) (g : Fl → Fl) : (setF L nm g).length = L.length := by simp [setF]
theorem setF_not {L : Ds} {nm : List UInt8} (g : Fl → Fl) (h : has L nm = false) : setF L nm g = L := by
  unfold setF
  conv => rhs; rw [← List.map_id L]
  refine List.map_congr_left fun p hp => ?_
  rw [if_neg (has_not h p hp)]
  rfl
/-- A list with a file in its place. -/
theorem split_at {L : Ds} {nm : List UInt8} {f : Fl} (hn : (L.map (·.1)).Nodup) (h : (nm, f) ∈ L) : ∃ A B, L = A ++ (nm, f) :: B ∧ ∀ g, setF L nm g = A ++ (nm, g f) :: B := by
  obtain ⟨A, B, rfl⟩ := List.append_of_mem h
  refine ⟨A, B, rfl, fun g => ?_⟩
  rw [List.map_append, List.map_cons, List.nodup_append] at hn
  obtain ⟨h1, h2, h3⟩ := hn
  rw [List.nodup_cons] at h2
  have hA : setF A nm g = A := setF_not g (by
    cases hh : has A nm with
    | false => rfl
    | true =>
      obtain ⟨f', hf'⟩ := has_iff.1 hh
      exact absurd rfl (h3 nm (List.mem_map.2 ⟨_, hf', rfl⟩) nm (by simp)))
  have hB : setF B nm g = B := setF_not g (by
    cases hh : has B nm with
    | false => rfl
    | true =>
      obtain ⟨f', hf'⟩ := has_iff.1 hh
      exact absurd (List.mem_map.2 ⟨_, hf', rfl⟩) h2.1)
  unfold setF at *
  rw [List.map_append, List.map_cons, hA, hB]
  simp
theorem tot_app (A B : Ds) : tot (A ++ B) = tot A + tot B := by simp [tot]
theorem tot_cons (p : List UInt8 × Fl) (B : Ds) : tot (p :: B) = p.2.by_.length + tot B := by simp [tot]
theorem nums_app (A B : Ds) : nums (A ++ B) = nums A ++ nums B := by simp [nums]
theorem nums_cons (p : List UInt8 × Fl) (B : Ds) : nums (p :: B) = p.2.ws.map (·.1) ++ nums B := by simp [nums]
theorem wait_nums (L : Ds) : (nums L).length = wait L := by
  unfold nums wait
  rw [List.length_flatMap]
  simp

theorem mem_set {L : Ds} {nm : List UInt8} {g : Fl → Fl} {p : List UInt8 × Fl} (h : p ∈ setF L nm g) : p ∈ L ∨ (p.1 = nm ∧ ∃ f, (nm, f) ∈ L ∧ p.2 = g f) := by
  unfold setF at h
  obtain ⟨q, hq, e⟩ := List.mem_map.1 h
  by_cases c : q.1 = nm
  · rw [if_pos c] at e
    subst e
    exact .inr ⟨c, q.2, by rw [← c]; exact hq, rfl⟩
  · rw [if_neg c] at e
    subst e
    exact .inl hq
theorem ok_app {s : St} (h : Ok s) (nm b : List UInt8) : Ok (appS s nm b) := by
  unfold appS
  by_cases he : appE s.l nm b.length = 0
  · rw [if_pos he]
    have hnm : isNm nm = true := by
      cases c : isNm nm with
      | true => rfl
      | false => unfold appE at he; rw [if_pos c] at he; cases he
    have hfull : ¬ ((has s.l nm = false ∧ s.l.length = 64) ∨ 1048576 < tot s.l + b.length) := fun c => by
      unfold appE at he
      rw [if_neg (by rw [hnm]; simp), if_pos c] at he
      cases he
    have hroom : tot s.l + b.length ≤ 1048576 := by
      have : ¬ 1048576 < tot s.l + b.length := fun c => hfull (.inr c)
      omega
    have m0 := h.m0
    by_cases hh : has s.l nm = true
    · rw [if_pos hh]
      obtain ⟨f, hf⟩ := has_iff.1 hh
      obtain ⟨A, B, e, hs⟩ := split_at h.nd hf
      have hL : setF s.l nm (appF s.m b) = A ++ (nm, appF s.m b f) :: B := hs _
      have hn1 : ∀ x, x ∈ nums (A ++ (nm, appF s.m b f) :: B) ↔ x ∈ nums s.l ∨ x = s.m := fun x => by
        rw [e, nums_app, nums_cons, nums_app, nums_cons]
        simp only [appF, List.map_append, List.map_cons, List.map_nil, List.mem_append, List.mem_singleton]
        constructor
        · rintro (a | (a | a) | a)
          · exact .inl (.inl a)
          · exact .inl (.inr (.inl a))
          · exact .inr a
          · exact .inl (.inr (.inr a))
        · rintro ((a | a | a) | a)
          · exact .inl a
          · exact .inr (.inl (.inl a))
          · exact .inr (.inr a)
          · exact .inr (.inl (.inr a))
      refine ⟨?_, ?_, ?_, ?_, ?_, ?_, by show 0 ≤ s.m + 1; omega, ?_⟩
      · show ((setF s.l nm _).map _).Nodup
        rw [setF_keys]; exact h.nd
      · show (setF s.l nm _).length ≤ 64
        rw [setF_len]; exact h.len
      · show tot (setF s.l nm _) ≤ _
        rw [hL]
        rw [e] at hroom
        rw [tot_app, tot_cons] at *
        simp [appF] at *
        omega
      · intro p hp
        rcases mem_set hp with c | ⟨c, f', hf', c2⟩
        · exact h.sz p c
        · rw [c2]
          have := h.sz _ hf'
          simp [appF, Dsk.sz] at *
          omega
      · intro x hx
        replace hx : x ∈ nums (setF s.l nm (appF s.m b)) := hx
        show 0 ≤ x ∧ x < s.m + 1
        rw [hL, hn1] at hx
        rcases hx with c | c
        · have := h.num x c; omega
        · omega
      · show (nums (setF s.l nm _)).Nodup
        rw [hL]
        have hp : (nums (A ++ (nm, appF s.m b f) :: B)).Perm (s.m :: nums s.l) := by
          rw [e, nums_app, nums_cons, nums_app, nums_cons]
          simp only [appF, List.map_append, List.map_cons, List.map_nil, List.append_assoc, List.singleton_append]
          refine (List.Perm.append_left _ List.perm_middle).trans List.perm_middle
        rw [hp.nodup_iff, List.nodup_cons]
        refine ⟨fun c => ?_, h.nn⟩
        have := (h.num _ c).2
        omega
      · intro p hp
        rcases mem_set hp with c | ⟨c, f', hf', c2⟩
        · exact h.nm p c
        · rw [c]; exact hnm
    · rw [if_neg hh]
      have hh' : has s.l nm = false := by simpa using hh
      have hlen : s.l.length ≠ 64 := fun c => hfull (.inl ⟨hh', c⟩)
      have h1 := h.len
      refine ⟨?_, ?_, ?_, ?_, ?_, ?_, by show 0 ≤ s.m + 1; omega, ?_⟩
      · show ((s.l ++ _).map _).Nodup
        rw [List.map_append, List.nodup_append]
        refine ⟨h.nd, by simp, fun a ha c hc => ?_⟩
        obtain ⟨p, hp, rfl⟩ := List.mem_map.1 ha
        simp at hc
        rw [hc]
        exact has_not hh' p hp
      · show (s.l ++ _).length ≤ 64
        simp; omega
      · show tot (s.l ++ _) ≤ _
        rw [tot_app]
        simp [tot, appF] at *
        omega
      · intro p hp
        rcases List.mem_append.1 hp with c | c
        · exact h.sz p c
        · simp at c
          subst c
          simp [appF, Dsk.sz]
      · intro x hx
        replace hx : x ∈ nums (s.l ++ _) := hx
        show 0 ≤ x ∧ x < s.m + 1
        rw [nums_app, List.mem_append] at hx
        rcases hx with c | c
        · have := h.num x c; omega
        · simp [nums, appF] at c; omega
      · show (nums (s.l ++ _)).Nodup
        rw [nums_app, List.nodup_append]
        refine ⟨h.nn, by simp [nums, appF], fun a ha c hc => ?_⟩
        simp [nums, appF] at hc
        have := (h.num a ha).2
        omega
      · intro p hp
        rcases List.mem_append.1 hp with c | c
        · exact h.nm p c
        · simp at c
          subst c
          exact hnm
  · rw [if_neg he]; exact h
/-- Files that keep their names, lose bytes and waits. -/
theorem ok_map {s : St} (h : Ok s) (g : List UInt8 × Fl → Fl) (hb : ∀ p ∈ s.l, (g p).by_.length ≤ p.2.by_.length) (hw : ∀ p ∈ s.l, (g p).ws.Sublist p.2.ws) (hs : ∀ p ∈ s.l, sz (g p) ≤ (g p).by_.length) : Ok ⟨s.l.map fun p => (p.1, g p), s.m⟩ := by
  have hsub : ∀ L : Ds, (∀ p ∈ L, (g p).ws.Sublist p.2.ws) → (nums (L.map fun p => (p.1, g p))).Sublist (nums L) := fun L => by
    induction L with
    | nil => intro _; exact List.Sublist.refl _
    | cons p L ih =>
      intro hL
      rw [List.map_cons, nums_cons, nums_cons]
      exact ((hL p (by simp)).map _).append (ih fun q hq => hL q (by simp [hq]))
  have htot : ∀ L : Ds, (∀ p ∈ L, (g p).by_.length ≤ p.2.by_.length) → tot (L.map fun p => (p.1, g p)) ≤ tot L := fun L => by
    induction L with
    | nil => intro _; exact Nat.le_refl _
    | cons p L ih =>
      intro hL
      rw [List.map_cons, tot_cons, tot_cons]
      have := hL p (by simp)
      have := ih fun q hq => hL q (by simp [hq])
      show (g p).by_.length + _ ≤ _
      omega
  refine ⟨?_, by simpa using h.len, Nat.le_trans (htot _ hb) h.tot, ?_, fun x hx => h.num x ((hsub _ hw).subset hx), h.nn.sublist (hsub _ hw), h.m0, ?_⟩
  · show ((s.l.map _).map _).Nodup
    rw [List.map_map]
    exact h.nd
  · intro p hp
    obtain ⟨q, hq, rfl⟩ := List.mem_map.1 hp
    exact hs q hq
  · intro p hp
    obtain ⟨q, hq, rfl⟩ := List.mem_map.1 hp
    exact h.nm q hq
theorem ok_sync {s : St} (h : Ok s) (nm : List UInt8) : Ok (syncS s nm) := by
  have e : syncS s nm = ⟨s.l.map fun p => (p.1, if p.1 = nm then ⟨p.2.by_, []⟩ else p.2), s.m⟩ := by
    unfold syncS setF
    congr 1
    refine List.map_congr_left fun p _ => ?_
    split <;> rfl
  rw [e]
  refine ok_map h _ (fun p _ => ?_) (fun p _ => ?_) fun p hp => ?_
  · split <;> exact Nat.le_refl _
  · split
    · exact List.nil_sublist _
    · exact List.Sublist.refl _
  · split
    · simp [Dsk.sz]
    · exact h.sz p hp
theorem ok_crash {s : St} (h : Ok s) (keep torn : Int) : Ok (crashS s keep torn) := by
  unfold crashS
  refine ok_map h (fun p => p.2.crash (behind s keep.toNat) torn) (fun p _ => ?_) (fun p _ => List.nil_sublist _) fun p hp => ?_
  · simp [Fl.crash]
  · simp [Fl.crash, Dsk.sz]
theorem ok_rem {s : St} (h : Ok s) (nm : List UInt8) : Ok (remS s nm) := by
  have hs : (remS s nm).l.Sublist s.l := List.filter_sublist
  have hsub : ∀ {A B : Ds}, A.Sublist B → (nums A).Sublist (nums B) ∧ tot A ≤ tot B := fun {A B} hAB => by
    induction hAB with
    | slnil => exact ⟨List.Sublist.refl _, Nat.le_refl _⟩
    | cons p _ ih => rw [nums_cons, tot_cons]; exact ⟨ih.1.trans (List.sublist_append_right _ _), by omega⟩
    | cons_cons p _ ih => rw [nums_cons, nums_cons, tot_cons, tot_cons]; exact ⟨(List.Sublist.refl _).append ih.1, by omega⟩
  exact ⟨h.nd.sublist (hs.map _), Nat.le_trans hs.length_le h.len, Nat.le_trans (hsub hs).2 h.tot, fun p hp => h.sz p (hs.subset hp), fun x hx => h.num x ((hsub hs).1.subset hx), h.nn.sublist (hsub hs).1, h.m0, fun p hp => h.nm p (hs.subset hp)⟩
theorem Ok.wait {s : St} (h : Ok s) : wait s.l ≤ s.m := by
  have hm := h.m0
  obtain ⟨n, hn⟩ : ∃ n : Nat, s.m = n := ⟨s.m.toNat, by omega⟩
  rw [← wait_nums]
  have h1 : ((nums s.l).map Int.toNat).Nodup := by
    refine List.Pairwise.map _ (fun a b hab => hab) ?_ |> fun h => h
    have := h.nn
    refine List.Pairwise.imp_of_mem ?_ this
    intro a b ha hb hab c
    have := h.num a ha
    have := h.num b hb
    exact hab (by omega)
  have h2 := List.Nodup.length_le_of_subset h1 (l₂ := List.range n) fun x hx => by
    obtain ⟨y, hy, rfl⟩ := List.mem_map.1 hx
    have := h.num y hy
    rw [List.mem_range]
    omega
  simp at h2
  omega
theorem stays_le (nx torn : Int) (p : Int × Nat) : stays nx torn p ≤ p.2 := by
  unfold stays
  split
  · exact Nat.le_refl _
  · split <;> omega
theorem lost_le (nx torn : Int) (ws : List (Int × Nat)) : lost nx torn ws ≤ (ws.map (·.2)).sum := by
  unfold lost
  induction ws with
  | nil => exact Nat.le_refl _
  | cons p ws ih => simp only [List.map_cons, List.sum_cons]; omega
theorem lost_take (nx torn : Int) (ws : List (Int × Nat)) (k : Nat) : lost nx torn (ws.take k) ≤ lost nx torn ws := by
  unfold lost
  conv => rhs; rw [← List.take_append_drop k ws]
  rw [List.map_append, List.sum_append]
  omega
theorem lost_snoc (nx torn : Int) (ws : List (Int × Nat)) (p : Int × Nat) : lost nx torn (ws ++ [p]) = lost nx torn ws + (p.2 - stays nx torn p) := by simp [lost]
end Go.Proofs.YtapdhkgeolcogaaGreatDoor.Dsk
