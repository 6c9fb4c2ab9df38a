/- When two lists of fields are written alike. -/
import Derived.Test.YtmolldednpdicaaCMath
namespace Go.Proofs.Ytmolldednpdicaa.Code
open Crc (Bytes Byte)

def Same (f g : Fd) : Prop := (f.k = 3 ∨ f.n = g.n) ∧ (f.k ≠ 3 ∨ f.s = g.s)
theorem same_norm {f g : Fd} (hk : f.k = g.k) : norm f = norm g ↔ Same f g := by
  rcases f with ⟨k, n, s⟩
  rcases g with ⟨k', n', s'⟩
  simp only at hk
  subst hk
  unfold norm Same
  by_cases h : k = 3
  · simp [h]
  · simp [h]
theorem norm_in {f : Fd} (h : In64 f.n) : In64 (norm f).n := by
  unfold norm
  split
  · unfold In64; simp
  · exact h
theorem fb_norm (f : Fd) : fb (norm f) = fb f := by
  rcases f with ⟨k, n, s⟩
  unfold norm
  by_cases h : k = 3
  · subst h; simp [fb]
  · simp only [if_neg h]
    simp [fb, h]
theorem enc_norm (a : List Fd) : enc (a.map norm) = enc a := by
  induction a with
  | nil => rfl
  | cons f a ih => rw [List.map_cons, enc_cons, enc_cons, fb_norm, ih]
theorem enc_iff {a b : List Fd} (ha : ∀ f ∈ a, Fits f ∧ In64 f.n) (hb : ∀ f ∈ b, Fits f ∧ In64 f.n) (hk : a.map (·.k) = b.map (·.k)) : enc a = enc b ↔ a.map norm = b.map norm := by
  constructor
  · intro h
    have h1 := dec_enc ha
    have h2 := dec_enc hb
    rw [hk, h, h2] at h1
    injection h1 with h1
    exact h1.symm
  · intro h
    rw [← enc_norm a, h, enc_norm b]

/-- By places: lists of one length and the same kinds are written alike just when their fields are the same. -/
theorem enc_same {a b : List Fd} (ha : ∀ f ∈ a, Fits f ∧ In64 f.n) (hb : ∀ f ∈ b, Fits f ∧ In64 f.n) (hl : a.length = b.length)
    (hk : ∀ i (h : i < a.length) (h' : i < b.length), a[i].k = b[i].k) : enc a = enc b ↔ ∀ i (h : i < a.length) (h' : i < b.length), Same a[i] b[i] := by
  rw [enc_iff ha hb (List.ext_getElem (by simpa using hl) (fun i h h' => by simpa using hk i (by simpa using h) (by simpa using h')))]
  constructor
  · intro h i hi hi'
    rw [← same_norm (hk i hi hi')]
    have := congrArg (·[i]?) h
    simpa [hi, hi'] using this
  · intro h
    refine List.ext_getElem (by simpa using hl) fun i hi hi' => ?_
    simp only [List.getElem_map]
    exact (same_norm (hk i (by simpa using hi) (by simpa using hi'))).2 (h i (by simpa using hi) (by simpa using hi'))
end Go.Proofs.Ytmolldednpdicaa.Code
