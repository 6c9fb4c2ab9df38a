/- What a crash keeps: the mathematics of the statement. -/
import Derived.Test.YthpeeldpalmakaaQSet
namespace Go.Proofs.Ythpeeldpalmakaa
open Go.RowKit Dsk
set_option linter.unusedVariables false
namespace Dsk
/-- What a file had when it was synced last. -/
def synF (f : Fl) : List UInt8 := f.by_.take (f.by_.length - sz f)
def syn (L : Ds) : List (List UInt8) := L.map fun p => synF p.2
def keys (L : Ds) : List (List UInt8) := L.map (·.1)
theorem keys_at {L : Ds} {i : Nat} {x : List UInt8} (h : (keys L)[i]? = some x) : ∃ f, L[i]? = some (x, f) := by
  unfold keys at h
  rw [List.getElem?_map] at h
  cases hl : L[i]? with
  | none => rw [hl] at h; cases h
  | some p => rw [hl] at h; injection h with h; exact ⟨p.2, by rw [← h]⟩
theorem has_keys {L : Ds} {x : List UInt8} : has L x = true ↔ x ∈ keys L := by
  rw [has_iff]
  unfold keys
  constructor
  · rintro ⟨f, hf⟩
    exact List.mem_map.2 ⟨_, hf, rfl⟩
  · intro h
    obtain ⟨p, hp, e⟩ := List.mem_map.1 h
    exact ⟨p.2, by rw [← e]; exact hp⟩
theorem appE_nm {L : Ds} {nm : List UInt8} {n : Nat} (h : appE L nm n = 0) : isNm nm = true := by
  cases c : isNm nm with
  | true => rfl
  | false => unfold appE at h; rw [if_pos c] at h; cases h
/-- An Append to a file that is there: names and synced bytes are as they were. -/
theorem app_old_syn {s : St} (h : Ok s) {nm b : List UInt8} (he : appE s.l nm b.length = 0) (hh : has s.l nm = true) : keys (appS s nm b).l = keys s.l ∧ syn (appS s nm b).l = syn s.l := by
  have e : (appS s nm b).l = setF s.l nm (appF s.m b) := by unfold appS; rw [if_pos he, if_pos hh]
  rw [e]
  refine ⟨setF_keys _ _ _, ?_⟩
  unfold syn setF
  rw [List.map_map]
  refine List.map_congr_left fun p hp => ?_
  simp only [Function.comp]
  split
  · have hs := h.sz p hp
    unfold synF appF Dsk.sz at *
    simp only [List.length_append, List.map_append, List.map_cons, List.map_nil, List.sum_append, List.sum_cons, List.sum_nil, Nat.add_zero]
    rw [List.take_append_of_le_length (by omega)]
    congr 1
    omega
  · rfl
/-- .. to a new one: it is one name more, with nothing synced. -/
theorem app_new_syn {s : St} {nm b : List UInt8} (he : appE s.l nm b.length = 0) (hh : has s.l nm = false) : keys (appS s nm b).l = keys s.l ++ [nm] ∧ syn (appS s nm b).l = syn s.l ++ [[]] := by
  have e : (appS s nm b).l = s.l ++ [(nm, appF s.m b ⟨[], []⟩)] := by unfold appS; rw [if_pos he, if_neg (by rw [hh]; simp)]
  rw [e]
  unfold keys syn
  refine ⟨by simp, ?_⟩
  rw [List.map_append]
  simp [synF, appF, Dsk.sz]
/-- Sync: what the file has is what was synced. -/
theorem sync_syn {s : St} (h : Ok s) {nm : List UInt8} {i : Nat} (hi : (keys s.l)[i]? = some nm) : keys (syncS s nm).l = keys s.l ∧ syn (syncS s nm).l = (syn s.l).set i (rdB s.l nm) := by
  refine ⟨keys_sync s nm, ?_⟩
  obtain ⟨f, hf⟩ := keys_at hi
  have hmem := List.mem_of_getElem? hf
  have hrd : rdB s.l nm = f.by_ := rdB_mem h.nd hmem
  obtain ⟨hlt, hge⟩ := List.getElem?_eq_some_iff.1 hf
  apply List.ext_getElem?
  intro t
  unfold syn syncS setF
  rw [List.getElem?_map, List.getElem?_map, List.getElem?_set, List.getElem?_map]
  by_cases e : i = t
  · subst e
    rw [if_pos rfl, if_pos (by simpa using hlt), hf]
    simp only [Option.map_some, if_true]
    rw [hrd]
    simp [synF, Dsk.sz]
  · rw [if_neg e]
    cases hl : s.l[t]? with
    | none => rfl
    | some p =>
      have hne : p.1 ≠ nm := fun c => by
        have hnd := h.nd
        have k1 : (s.l.map (·.1))[t]? = some nm := by rw [List.getElem?_map, hl]; simp [c]
        exact e ((List.getElem?_inj (by simpa using hlt) hnd).1 (by rw [k1]; exact hi))
      simp [hne]
theorem step_same {s : St} {nm b : List UInt8} (he : appE s.l nm b.length ≠ 0) : appS s nm b = s := by unfold appS; rw [if_neg he]
theorem sync_same {s : St} {nm : List UInt8} (he : hasE s.l nm ≠ 0) : syncS s nm = s := by
  unfold syncS
  rw [setF_not]
  cases c : has s.l nm with
  | false => rfl
  | true => unfold hasE at he; rw [if_pos c] at he; exact absurd rfl he
theorem sum_zero {α : Type} (l : List α) : (l.map fun _ => 0).sum = 0 := by
  induction l with
  | nil => rfl
  | cons a l ih => simpa using ih
theorem lost_all {nx torn : Int} {ws : List (Int × Nat)} (h : ∀ p ∈ ws, stays nx torn p = 0) : lost nx torn ws = (ws.map (·.2)).sum := by
  unfold lost
  congr 1
  refine List.map_congr_left fun p hp => ?_
  rw [h p hp]
  omega
theorem lost_none {nx torn : Int} {ws : List (Int × Nat)} (h : ∀ p ∈ ws, p.1 < nx) : lost nx torn ws = 0 := by
  unfold lost
  have : (ws.map fun p => p.2 - stays nx torn p) = ws.map fun _ => 0 := List.map_congr_left fun p hp => by unfold stays; rw [if_pos (h p hp)]; omega
  rw [this]
  exact sum_zero ws
theorem mem_nums {L : Ds} {x : List UInt8} {f : Fl} (hf : (x, f) ∈ L) {p : Int × Nat} (hp : p ∈ f.ws) : p.1 ∈ nums L := List.mem_flatMap.2 ⟨_, hf, List.mem_map.2 ⟨p, hp, rfl⟩⟩
/-- What the statement asks of one file behind a crash. -/
theorem crash_file {s : St} (h : Ok s) (keep torn : Int) {x : List UInt8} {f : Fl} (hf : (x, f) ∈ s.l) :
    ∃ n, rdB (crashS s keep torn).l x = f.by_.take n ∧ n ≤ f.by_.length ∧ (synF f).length ≤ n ∧ ((wait s.l : Int) ≤ keep → n = f.by_.length) ∧ (keep ≤ 0 → torn ≤ 0 → f.by_.take n = synF f) := by
  refine ⟨f.by_.length - lost (behind s keep.toNat) torn f.ws, rdB_crash h keep torn hf, by omega, ?_, fun hk => ?_, fun hk ht => ?_⟩
  · unfold synF
    rw [List.length_take]
    have := lost_le (behind s keep.toNat) torn f.ws
    unfold Dsk.sz
    omega
  · have hb : behind s keep.toNat = s.m := by
      unfold behind
      rw [if_pos]
      rw [wait_nums]
      omega
    rw [hb, lost_none fun p hp => (h.num _ (mem_nums hf hp)).2]
    rfl
  · have h0 : keep.toNat = 0 := by omega
    have hl : lost (behind s keep.toNat) torn f.ws = Dsk.sz f := by
      unfold Dsk.sz
      apply lost_all
      intro p hp
      have hpn := mem_nums hf hp
      have hb : behind s keep.toNat ≤ p.1 := by
        rw [h0]
        unfold behind
        have hpos : 0 < (nums s.l).length := List.length_pos_of_mem hpn
        rw [if_neg (by omega)]
        have hsl : (sorted (nums s.l)).length = (nums s.l).length := (List.mergeSort_perm _ _).length_eq
        have hps : p.1 ∈ sorted (nums s.l) := (List.mergeSort_perm _ _).mem_iff.2 hpn
        obtain ⟨i, hi, e⟩ := List.getElem_of_mem hps
        have := sorted_le (nums s.l) (Nat.zero_le i) hi
        rw [show (sorted (nums s.l)).getD i 0 = p.1 by simp [List.getD, hi, e]] at this
        exact this
      unfold stays
      rw [if_neg (by omega)]
      split
      · rfl
      · omega
    rw [hl]
    rfl
theorem wait_crash (s : St) (keep torn : Int) : wait (crashS s keep torn).l = 0 := by
  unfold crashS wait
  simp only [List.map_map]
  exact sum_zero s.l
end Dsk
/-- Two rows of names that lie apart, and apart from a disk's blocks. -/
structure Rows2 (w : World) (B : Nat) (vN vY : Value) (N Y : List (List UInt8)) (F : Nat → Prop) : Prop where
  oN : eS.Own w B vN N
  oY : eS.Own w B vY Y
  aN : ∀ k, vN.ownBlock = some k → ¬ F k
  aY : ∀ k, vY.ownBlock = some k → ¬ F k
  ne : ∀ k, vN.ownBlock = some k → vY.ownBlock ≠ some k
theorem Rows2.grown {w w' : World} {B : Nat} {vN vY : Value} {N Y : List (List UInt8)} {F : Nat → Prop} (h : Rows2 w B vN vY N Y F) (g : w.grownBy w' none) : Rows2 w' B vN vY N Y F := ⟨h.oN.grown g, h.oY.grown g, h.aN, h.aY, h.ne⟩
theorem Rows2.next {w w' : World} {B : Nat} {vN vY : Value} {N Y : List (List UInt8)} {F F' : Nat → Prop} (h : Rows2 w B vN vY N Y F) (C : Chg F w w') (f : ∀ k, F' k → F k ∨ w.heap.size ≤ k) : Rows2 w' B vN vY N Y F' :=
  ⟨h.oN.kept C h.aN, h.oY.kept C h.aY, apart_next h.oN h.aN f, apart_next h.oY h.aY f, h.ne⟩
/-- The first row has grown. -/
theorem Rows2.first {w w' : World} {B : Nat} {vN vY vN' : Value} {N Y N' : List (List UInt8)} {F : Nat → Prop} (h : Rows2 w B vN vY N Y F) (g : w.grownBy w' vN.ownBlock) (o : eS.Own w' B vN' N') (hb : vN'.ownBlock = vN.ownBlock ∨ ∃ k, vN'.ownBlock = some k ∧ w.heap.size ≤ k) (hF : ∀ k, F k → k < w.heap.size) : Rows2 w' B vN' vY N' Y F := by
  refine ⟨o, h.oY.but g fun k hk e => h.ne k e hk, fun k hk c => ?_, h.aY, fun k hk e => ?_⟩
  · rcases hb with e | ⟨k', e, hk'⟩
    · exact h.aN k (by rw [← e]; exact hk) c
    · rw [e] at hk; injection hk with hk; have := hF k c; omega
  · rcases hb with e1 | ⟨k', e1, hk'⟩
    · exact h.ne k (by rw [← e1]; exact hk) e
    · rw [e1] at hk; injection hk with hk; have := (h.oY.lt k e).2; omega
theorem Rows2.second {w w' : World} {B : Nat} {vN vY vY' : Value} {N Y Y' : List (List UInt8)} {F : Nat → Prop} (h : Rows2 w B vN vY N Y F) (g : w.grownBy w' vY.ownBlock) (o : eS.Own w' B vY' Y') (hb : vY'.ownBlock = vY.ownBlock ∨ ∃ k, vY'.ownBlock = some k ∧ w.heap.size ≤ k) (hF : ∀ k, F k → k < w.heap.size) : Rows2 w' B vN vY' N Y' F := by
  refine ⟨h.oN.but g fun k hk e => h.ne k hk e, o, h.aN, fun k hk c => ?_, fun k hk e => ?_⟩
  · rcases hb with e | ⟨k', e, hk'⟩
    · exact h.aY k (by rw [← e]; exact hk) c
    · rw [e] at hk; injection hk with hk; have := hF k c; omega
  · rcases hb with e1 | ⟨k', e1, hk'⟩
    · exact h.ne k hk (by rw [← e1]; exact e)
    · rw [e1] at e; injection e with e; have := (h.oN.lt k hk).2; omega
end Go.Proofs.Ythpeeldpalmakaa
