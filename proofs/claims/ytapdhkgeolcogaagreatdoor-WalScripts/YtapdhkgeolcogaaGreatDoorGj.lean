/- The plain mathematics of a log's file: frames, one behind the other; what is read of one that is whole, cut or appended to. -/
import Derived.Test.YtapdhkgeolcogaaGreatDoorGi
import Derived.Lib.ItoaNum
import Derived.Lib.AtoiTie
import Derived.Lib.Strings
namespace Go.Proofs.YtapdhkgeolcogaaGreatDoor.Lg
set_option linter.unusedVariables false

abbrev By := List UInt8
def bI (l : By) : List Int := l.map fun x => (x.toNat : Int)
def iB (l : List Int) : By := l.map fun z => UInt8.ofNat z.toNat
theorem bI_len (l : By) : (bI l).length = l.length := by simp [bI]
theorem iB_len (l : List Int) : (iB l).length = l.length := by simp [iB]
theorem iB_bI (l : By) : iB (bI l) = l := by
  unfold iB bI
  rw [List.map_map]
  conv => rhs; rw [← List.map_id l]
  refine List.map_congr_left fun x _ => ?_
  simp
theorem bI_bytes (l : By) : Cd.Crc.Bytes (bI l) := by
  intro z hz
  obtain ⟨x, _, rfl⟩ := List.mem_map.1 hz
  have := x.toNat_lt
  exact ⟨by omega, by omega⟩
theorem bI_iB {l : List Int} (h : Cd.Crc.Bytes l) : bI (iB l) = l := by
  unfold iB bI
  rw [List.map_map]
  conv => rhs; rw [← List.map_id l]
  refine List.map_congr_left fun z hz => ?_
  obtain ⟨h0, h1⟩ := h z hz
  simp only [Function.comp, id]
  rw [UInt8.toNat_ofNat', Nat.mod_eq_of_lt (by omega)]
  omega
theorem bI_inj {a b : By} (h : bI a = bI b) : a = b := by rw [← iB_bI a, h, iB_bI]
theorem bI_app (a b : By) : bI (a ++ b) = bI a ++ bI b := by simp [bI]
theorem bI_take (a : By) (k : Nat) : bI (a.take k) = (bI a).take k := by simp [bI]
theorem bI_drop (a : By) (k : Nat) : bI (a.drop k) = (bI a).drop k := by simp [bI]

/-- The frame around some bytes. -/
def fr (l : By) : By := iB (Cd.Code.frame (bI l))
theorem bI_fr (l : By) : bI (fr l) = Cd.Code.frame (bI l) := bI_iB (Cd.Code.frame_bytes (bI_bytes l))
theorem fr_len (l : By) : (fr l).length = (Cd.Code.frame (bI l)).length := iB_len _
theorem fr_pos (l : By) : l.length + 5 ≤ (fr l).length := by
  rw [fr_len, Cd.Code.frame_len, bI_len]
  have := Cd.Code.put_pos l.length
  omega
theorem fr_le {l : By} (h : l.length ≤ 65536) : (fr l).length ≤ l.length + 7 := by
  rw [fr_len, Cd.Code.frame_len, bI_len]
  have := Cd.Code.put_len3 h
  omega
/-- What is read of a frame. -/
def un (b : By) : Option (By × Nat) := match Cd.Code.unf (bI b) with | .ok (y, m) => some (iB y, m) | .error _ => none
theorem un_fr {l : By} (h : l.length ≤ 65536) (r : By) : un (fr l ++ r) = some (l, (fr l).length) := by
  unfold un
  rw [bI_app, bI_fr, Cd.Code.unf_frame (by rw [bI_len]; exact h)]
  simp only [iB_bI, fr_len]
theorem un_cut {l : By} (h : l.length ≤ 65536) {k : Nat} (hk : k < (fr l).length) : un ((fr l).take k) = none := by
  unfold un
  rw [bI_take, bI_fr, Cd.Code.unf_cut (by rw [bI_len]; exact h) k (by rw [← fr_len]; exact hk)]
theorem un_nil : un [] = none := by
  have h := un_cut (l := []) (by simp) (k := 0) (by have := fr_pos []; omega)
  rwa [List.take_zero] at h
theorem un_form {b y : By} {m : Nat} (h : un b = some (y, m)) : y.length ≤ 65536 ∧ m = (fr y).length ∧ b = fr y ++ b.drop m := by
  unfold un at h
  cases hu : Cd.Code.unf (bI b) with
  | error e => rw [hu] at h; cases h
  | ok p =>
    obtain ⟨y', m'⟩ := p
    rw [hu] at h
    simp only [Option.some.injEq, Prod.mk.injEq] at h
    obtain ⟨rfl, rfl⟩ := h
    unfold Cd.Code.unf at hu
    cases ht : Cd.Code.rText (bI b) with
    | error e => rw [ht] at hu; cases hu
    | ok q =>
      obtain ⟨lo, hi⟩ := q
      rw [ht] at hu
      obtain ⟨g1, g2, g3, g4, g5, g6⟩ := Cd.Code.rText_ok (bI_bytes b) ht
      simp only at hu
      split at hu
      · cases hu
      · rename_i hlen
        split at hu
        · rename_i hsum
          injection hu with hu
          injection hu with h1 h2
          have hyl : y'.length = hi - lo := by rw [← h1, List.length_take, List.length_drop]; omega
          have hyb : Cd.Crc.Bytes y' := by
            intro z hz
            rw [← h1] at hz
            exact bI_bytes b z (List.mem_of_mem_drop (List.mem_of_mem_take hz))
          have hhead : Cd.Code.head y' = (bI b).take hi := by unfold Cd.Code.head; rw [hyl, g6, h1]
          have hframe : Cd.Code.frame y' = (bI b).take m' := by
            unfold Cd.Code.frame
            rw [hhead, hsum, ← h2, List.take_add]
          have hm : m' ≤ (bI b).length := by omega
          have hfr : fr (iB y') = b.take m' := by
            apply bI_inj
            rw [bI_fr, bI_iB hyb, hframe, bI_take]
          refine ⟨by rw [iB_len, hyl]; exact g3, ?_, ?_⟩
          · rw [hfr, List.length_take]
            rw [bI_len] at hm
            omega
          · rw [hfr, List.take_append_drop]
        · cases hu
theorem un_lt {b y : By} {m : Nat} (h : un b = some (y, m)) : 5 ≤ m ∧ m ≤ b.length := by
  obtain ⟨h1, h2, h3⟩ := un_form h
  have hp := fr_pos y
  have := congrArg List.length h3
  rw [List.length_append] at this
  exact ⟨by omega, by omega⟩
/-- The frames with which bytes begin: what they hold, how many bytes stand behind them. -/
def recs (b : By) : List By × Nat :=
  match h : un b with
  | none => ([], b.length)
  | some (y, m) => (y :: (recs (b.drop m)).1, (recs (b.drop m)).2)
  termination_by b.length
  decreasing_by all_goals (have := un_lt h; rw [List.length_drop]; omega)
theorem recs_none {b : By} (h : un b = none) : recs b = ([], b.length) := by
  rw [recs]
  split
  · rfl
  · rename_i h2; rw [h] at h2; cases h2
theorem recs_some {b y : By} {m : Nat} (h : un b = some (y, m)) : recs b = (y :: (recs (b.drop m)).1, (recs (b.drop m)).2) := by
  rw [recs]
  split
  · rename_i h2; rw [h] at h2; cases h2
  · rename_i h2
    rw [h] at h2
    simp only [Option.some.injEq, Prod.mk.injEq] at h2
    obtain ⟨rfl, rfl⟩ := h2
    rfl
def Fit (ls : List By) : Prop := ∀ l ∈ ls, l.length ≤ 65536
abbrev frs (ls : List By) : By := ls.flatMap fr
theorem recs_frs : ∀ {ls : List By} (h : Fit ls) (t : By), recs (frs ls ++ t) = (ls ++ (recs t).1, (recs t).2)
  | [], _, t => by simp
  | l :: ls, h, t => by
    have hl := h l (by simp)
    have e : frs (l :: ls) ++ t = fr l ++ (frs ls ++ t) := by simp [List.append_assoc]
    rw [e, recs_some (un_fr hl _), List.drop_left, recs_frs (fun x hx => h x (by simp [hx])) t]
    simp
theorem recs_nil : recs [] = ([], 0) := recs_none un_nil
theorem recs_form (b : By) : ∃ t, b = frs (recs b).1 ++ t ∧ t.length = (recs b).2 ∧ un t = none ∧ Fit (recs b).1 := by
  generalize hn : b.length = n
  induction n using Nat.strongRecOn generalizing b with
  | _ n ih =>
    cases hu : un b with
    | none => exact ⟨b, by rw [recs_none hu]; rfl, by rw [recs_none hu], hu, by rw [recs_none hu]; simp [Fit]⟩
    | some p =>
      obtain ⟨y, m⟩ := p
      obtain ⟨h1, h2, h3⟩ := un_form hu
      have h4 := un_lt hu
      obtain ⟨t, g1, g2, g3, g4⟩ := ih (b.drop m).length (by rw [List.length_drop]; omega) (b.drop m) rfl
      rw [recs_some hu]
      refine ⟨t, ?_, g2, g3, ?_⟩
      · conv => lhs; rw [h3, g1]
        simp [List.append_assoc]
      · intro l hl
        rcases List.mem_cons.1 hl with rfl | hl
        · exact h1
        · exact g4 l hl
/-- Frames cut anywhere. -/
theorem recs_cut : ∀ {ls : List By} (h : Fit ls) (k : Nat), ∃ j r, j ≤ ls.length ∧ recs ((frs ls).take k) = (ls.take j, r) ∧ (r = 0 → (frs ls).take k = frs (ls.take j))
  | [], _, k => ⟨0, 0, Nat.le_refl _, by simp [recs_nil], fun _ => by simp⟩
  | l :: ls, h, k => by
    have hl := h l (by simp)
    have e : frs (l :: ls) = fr l ++ frs ls := by simp
    by_cases hk : k < (fr l).length
    · have e2 : (frs (l :: ls)).take k = (fr l).take k := by rw [e, List.take_append_of_le_length (by omega)]
      refine ⟨0, ((fr l).take k).length, Nat.zero_le _, by rw [e2, recs_none (un_cut hl hk)]; simp, fun hr => ?_⟩
      rw [e2, List.eq_nil_of_length_eq_zero hr]
      simp
    · obtain ⟨j, r, g0, g1, g2⟩ := recs_cut (ls := ls) (fun x hx => h x (by simp [hx])) (k - (fr l).length)
      have e2 : (frs (l :: ls)).take k = fr l ++ (frs ls).take (k - (fr l).length) := by rw [e, List.take_append, List.take_of_length_le (by omega)]
      refine ⟨j + 1, r, by simp; omega, ?_, fun hr => ?_⟩
      · rw [e2, recs_some (un_fr hl _), List.drop_left, g1]
        simp
      · rw [e2, g2 hr]
        simp

/-- The number in a file's first frame. -/
def hdN (h : By) : Option Int := match Cd.Code.dec [1] (bI h) with | .ok (f :: _) => some f.n | _ => none
theorem dec_one (l : List Int) : (∃ f, Cd.Code.dec [1] l = .ok [f]) ∨ ∃ e, Cd.Code.dec [1] l = .error e := by
  unfold Cd.Code.dec
  cases Cd.Code.rField 1 l with
  | error e => exact .inr ⟨e, rfl⟩
  | ok p =>
    obtain ⟨f, s⟩ := p
    simp only [Cd.Code.dec]
    by_cases h : l.drop s = []
    · rw [if_pos h]; exact .inl ⟨f, rfl⟩
    · rw [if_neg h]; exact .inr ⟨21, rfl⟩
/-- A number as a first frame's bytes. -/
def num (n : Nat) : By := iB (Cd.Code.put n)
theorem bI_num (n : Nat) : bI (num n) = Cd.Code.put n := bI_iB (Cd.Code.put_bytes n)
theorem num_enc (n : Nat) : Cd.Code.enc [⟨1, (n : Int), ⟨#[]⟩⟩] = bI (num n) := by
  rw [bI_num, Cd.Code.enc_cons, Cd.Code.enc_nil, List.append_nil]
  unfold Cd.Code.fb
  rw [if_neg (show ¬ (1 : Int) = 2 by decide), if_neg (show ¬ (1 : Int) = 3 by decide)]
  simp
theorem num_len {n : Nat} (h : n < 9223372036854775808) : (num n).length ≤ 10 := by
  rw [← bI_len, bI_num]
  exact Cd.Code.put_len10 (by omega)
theorem hdN_num {n : Nat} (h : n < 9223372036854775808) : hdN (num n) = some (n : Int) := by
  unfold hdN
  rw [← num_enc]
  have := Cd.Code.dec_enc (fs := [⟨1, (n : Int), ⟨#[]⟩⟩]) (by
    intro f hf
    simp at hf
    subst hf
    exact ⟨.inl ⟨rfl, by show (0 : Int) ≤ (n : Int); omega⟩, by show Cd.Code.In64 (n : Int); unfold Cd.Code.In64; omega⟩)
  simp only [List.map_cons, List.map_nil] at this
  rw [this]
  unfold Cd.Code.norm
  rw [if_neg (show ¬ (1 : Int) = 3 by decide)]
/-- What a file holds: its records, and how many bytes stand behind them, if it is whole. -/
def rdF (b : By) : Option (List By × Nat) := match un b with
  | none => none
  | some (h, m) => match hdN h with
    | none => none
    | some c => if c ≤ ((recs (b.drop m)).1.length : Int) then some (recs (b.drop m)) else none
/-- A file with just these records. -/
def lf (ls : List By) : By := fr (num ls.length) ++ frs ls
/-- A file that is whole, with nothing behind its records. -/
def Wh (b : By) (ls : List By) : Prop := ∃ h c, h.length ≤ 65536 ∧ hdN h = some c ∧ c ≤ (ls.length : Int) ∧ b = fr h ++ frs ls ∧ Fit ls
theorem wh_lf {ls : List By} (h : Fit ls) (hl : ls.length < 9223372036854775808) : Wh (lf ls) ls :=
  ⟨num ls.length, ls.length, by have := num_len hl; omega, hdN_num hl, Int.le_refl _, rfl, h⟩
theorem rdF_wh {b : By} {ls : List By} (h : Wh b ls) : rdF b = some (ls, 0) := by
  obtain ⟨hh, c, h1, h2, h3, rfl, h5⟩ := h
  have hr : recs (frs ls) = (ls, 0) := by have := recs_frs h5 []; rw [recs_nil] at this; simpa using this
  unfold rdF
  rw [un_fr h1]
  simp only [h2, List.drop_left, hr]
  rw [if_pos h3]
theorem wh_rdF {b : By} {ls : List By} (h : rdF b = some (ls, 0)) : Wh b ls := by
  unfold rdF at h
  cases hu : un b with
  | none => rw [hu] at h; cases h
  | some p =>
    obtain ⟨hh, m⟩ := p
    rw [hu] at h
    simp only at h
    cases hd : hdN hh with
    | none => rw [hd] at h; cases h
    | some c =>
      rw [hd] at h
      simp only at h
      split at h
      · rename_i hc
        injection h with h
        obtain ⟨g1, g2, g3⟩ := un_form hu
        obtain ⟨t, k1, k2, k3, k4⟩ := recs_form (b.drop m)
        rw [h] at k1 k2 k4 hc
        have : t = [] := List.eq_nil_of_length_eq_zero k2
        rw [this, List.append_nil] at k1
        exact ⟨hh, c, g1, hd, hc, by rw [g3, k1], k4⟩
      · cases h
theorem rdF_fit {b : By} {ls : List By} {r : Nat} (h : rdF b = some (ls, r)) : Fit ls ∧ ls.length ≤ b.length ∧ (frs ls).length + 5 ≤ b.length := by
  unfold rdF at h
  cases hu : un b with
  | none => rw [hu] at h; cases h
  | some p =>
    obtain ⟨hh, m⟩ := p
    rw [hu] at h
    simp only at h
    cases hd : hdN hh with
    | none => rw [hd] at h; cases h
    | some c =>
      rw [hd] at h
      simp only at h
      split at h
      · injection h with h
        have h5 := un_lt hu
        obtain ⟨t, k1, k2, k3, k4⟩ := recs_form (b.drop m)
        rw [h] at k1 k4
        have hl := congrArg List.length k1
        rw [List.length_append, List.length_drop] at hl
        have hle : ∀ ls : List By, ls.length ≤ (frs ls).length := by
          intro ls
          induction ls with
          | nil => simp
          | cons l ls ih =>
            have := fr_pos l
            have e : frs (l :: ls) = fr l ++ frs ls := by simp
            rw [e, List.length_append, List.length_cons]
            omega
        have := hle ls
        have e2 : frs (ls, r).1 = frs ls := rfl
        rw [e2] at hl
        exact ⟨k4, by omega, by omega⟩
      · cases h
theorem Wh.app {b : By} {ls : List By} (h : Wh b ls) {l : By} (hl : l.length ≤ 65536) : Wh (b ++ fr l) (ls ++ [l]) := by
  obtain ⟨hh, c, h1, h2, h3, rfl, h5⟩ := h
  refine ⟨hh, c, h1, h2, by simp; omega, by simp [List.append_assoc], fun x hx => ?_⟩
  rcases List.mem_append.1 hx with hx | hx
  · exact h5 x hx
  · simp at hx; subst hx; exact hl
theorem Wh.more {b : By} {ls : List By} (h : Wh b ls) {m : List By} (hm : Fit m) : Wh (b ++ frs m) (ls ++ m) := by
  obtain ⟨hh, c, h1, h2, h3, rfl, h5⟩ := h
  refine ⟨hh, c, h1, h2, by simp; omega, by simp [List.append_assoc], fun x hx => ?_⟩
  rcases List.mem_append.1 hx with hx | hx
  · exact h5 x hx
  · exact hm x hx
theorem Wh.fit {b : By} {ls : List By} (h : Wh b ls) : Fit ls := by
  obtain ⟨_, _, _, _, _, _, h⟩ := h
  exact h
/-- A file that was whole, with some records more behind, cut in these. -/
theorem Wh.cut {b : By} {ls m : List By} (h : Wh b ls) (hm : Fit m) (k : Nat) : ∃ j r, j ≤ m.length ∧ rdF (b ++ (frs m).take k) = some (ls ++ m.take j, r) ∧ (r = 0 → Wh (b ++ (frs m).take k) (ls ++ m.take j)) := by
  obtain ⟨j, r, h1, h2, h3⟩ := recs_cut hm k
  refine ⟨j, r, h1, ?_, fun hr => ?_⟩
  · obtain ⟨hh, c, g1, g2, g3, rfl, g5⟩ := h
    have e : recs (frs ls ++ (frs m).take k) = (ls ++ m.take j, r) := by rw [recs_frs g5, h2]
    unfold rdF
    rw [List.append_assoc, un_fr g1]
    simp only [g2, List.drop_left, e]
    rw [if_pos (by simp; omega)]
  · rw [h3 hr]
    exact h.more fun x hx => hm x (List.mem_of_mem_take hx)

/-! Names. -/
def pre : By := [108, 111, 103, 45]
def nm (n : Nat) : By := pre ++ Lib.decDigits n
theorem dec_pos (n : Nat) : 1 ≤ (Lib.decDigits n).length := by
  rw [Lib.decDigits]
  split <;> simp
theorem dec_len : ∀ (k n : Nat), n < 10 ^ (k + 1) → (Lib.decDigits n).length ≤ k + 1
  | 0, n, h => by rw [Lib.decDigits, dif_pos (by simpa using h)]; simp
  | k + 1, n, h => by
    rw [Lib.decDigits]
    split
    · simp
    · have h2 : n / 10 < 10 ^ (k + 1) := by rw [Nat.pow_succ] at h; omega
      have := dec_len k (n / 10) h2
      simp
      omega
theorem dec_byte (n : Nat) : ∀ c ∈ Lib.decDigits n, 48 ≤ c ∧ c ≤ 57 := by
  induction n using Nat.strongRecOn with
  | _ n ih =>
    intro c hc
    have hd : ∀ d : Nat, d < 10 → 48 ≤ UInt8.ofNat (48 + d) ∧ UInt8.ofNat (48 + d) ≤ 57 := by decide
    rw [Lib.decDigits] at hc
    split at hc
    · rename_i h; rw [List.mem_singleton] at hc; subst hc; exact hd n h
    · rename_i h
      rcases List.mem_append.1 hc with hc | hc
      · exact ih (n / 10) (by omega) c hc
      · rw [List.mem_singleton] at hc; subst hc; exact hd _ (by omega)
theorem dec_snoc {n : Nat} (h : ¬ n < 10) : Lib.decDigits n = Lib.decDigits (n / 10) ++ [UInt8.ofNat (48 + n % 10)] := by
  conv => lhs; rw [Lib.decDigits]
  rw [dif_neg h]
theorem decFrom_app : ∀ (l r : By) (a : Nat), Lib.decFrom a (l ++ r) = (Lib.decFrom a l).bind fun x => Lib.decFrom x r
  | [], r, a => rfl
  | c :: l, r, a => by
    rw [List.cons_append]
    simp only [Lib.decFrom]
    cases Lib.digitVal c with
    | none => rfl
    | some d => exact decFrom_app l r _
theorem decFrom_dec (n : Nat) : Lib.decFrom 0 (Lib.decDigits n) = some n := by
  have hd : ∀ d : Nat, d < 10 → Lib.digitVal (UInt8.ofNat (48 + d)) = some d := by decide
  induction n using Nat.strongRecOn with
  | _ n ih =>
    by_cases h : n < 10
    · rw [Lib.decDigits, dif_pos h]
      simp only [Lib.decFrom, hd n h]
      simp
    · rw [dec_snoc h, decFrom_app, ih (n / 10) (by omega)]
      simp only [Option.bind, Lib.decFrom, hd (n % 10) (by omega)]
      congr 1
      omega
theorem atoi_dec {n : Nat} (h : n < 10 ^ 18) : Lib.atoiAll (Lib.decDigits n) = .ok (n : Int) := by
  have hl := dec_len 17 n h
  have hp := dec_pos n
  rw [Lib.atoiAll_short _ (by omega)]
  obtain ⟨c, r, hc⟩ := List.exists_cons_of_ne_nil (List.ne_nil_of_length_pos (by omega : 0 < (Lib.decDigits n).length))
  have hb := dec_byte n c (by rw [hc]; simp)
  have h1 : c ≠ 43 := by intro e; rw [e] at hb; exact absurd hb.1 (by decide)
  have h2 : c ≠ 45 := by intro e; rw [e] at hb; exact absurd hb.1 (by decide)
  have hd : Lib.decNat (Lib.decDigits n) = some n := by
    unfold Lib.decNat
    rw [hc, ← hc, decFrom_dec]
    rw [hc]
    rfl
  rw [hc] at hd ⊢
  unfold Lib.atoi
  split <;> simp_all [Lib.NumEnd.ofOption]
theorem nm_inj {a b : Nat} (h : nm a = nm b) : a = b := by
  unfold nm at h
  have h := List.append_cancel_left h
  have ha := decFrom_dec a
  rw [h, decFrom_dec] at ha
  injection ha with ha
  exact ha.symm
theorem nm_len {n : Nat} (h : n < 10000000000) : (nm n).length ≤ 14 := by
  have := dec_len 9 n (by omega)
  unfold nm pre
  simp
  omega
theorem nm_ne (n : Nat) : nm n ≠ [] := by simp [nm, pre]
/-- The number in a name. -/
def nOf (s : By) : Option Nat := match Lib.atoiAll (Lib.trimPrefix s pre) with
  | .ok v => if 1 ≤ v ∧ v ≤ 999999999 ∧ s = nm v.toNat then some v.toNat else none
  | _ => none
theorem nOf_nm {n : Nat} (h1 : 1 ≤ n) (h2 : n ≤ 999999999) : nOf (nm n) = some n := by
  unfold nOf
  have e2 : Lib.trimPrefix (nm n) pre = Lib.decDigits n := by
    unfold Lib.trimPrefix
    rw [if_pos (by simp [Lib.hasPrefix, nm])]
    rfl
  rw [e2, atoi_dec (by omega)]
  simp only
  rw [if_pos ⟨by omega, by omega, by simp⟩]
  simp
theorem nOf_some {s : By} {n : Nat} (h : nOf s = some n) : 1 ≤ n ∧ n ≤ 999999999 ∧ s = nm n := by
  unfold nOf at h
  split at h
  · split at h
    · rename_i hc
      injection h with h
      subst h
      exact ⟨by omega, by omega, hc.2.2⟩
    · cases h
  · cases h
end Go.Proofs.YtapdhkgeolcogaaGreatDoor.Lg
