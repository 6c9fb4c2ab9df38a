/- A way that is told the truth comes to its answer: what is reckoned. -/
import Derived.Test.YtlolhdijadhklaaOAwake
namespace Go.Proofs.Ytlolhdijadhklaa
open Go.RowKit Atl
set_option linter.unusedVariables false

/-- A way that is under way behind i replies, where the node L leads and T is the map. -/
structure FA (N L : Int) (nm : ByteArray) (T : Am) (i : Nat) (r : Wy) : Prop where
  d : r.d = false
  n : r.n = N
  nm : r.nm = nm
  lf : r.lf = 64 - (i : Int)
  j : r.j = nil3
  z : Szm r.m
  nd1 : 1 ≤ r.nd
  nd2 : r.nd ≤ L
  ph : (r.f = true ∧ rmap r.m = true ∧ (i : Int) + (L - r.nd + 1) + L ≤ 3 * L) ∨ (r.f = false ∧ chk r.m = true ∧ ((i : Int) + (L - r.nd + 1) + 2 * L ≤ 3 * L ∨ r.m = T ∧ (i : Int) + (L - r.nd + 1) ≤ 3 * L))
def FD (L : Int) (i : Nat) (r : Wy) : Prop := r.d = true ∧ r.er = 151 ∧ r.tm = 7 ∧ (i : Int) ≤ 3 * L ∧ r.j = nil3
section
variable {N L : Int} {nm : ByteArray} {T : Am} {i : Nat} {r : Wy}
theorem FA.le (h : FA N L nm T i r) : (i : Int) + 1 ≤ 3 * L := by
  have h1 := h.nd1
  have h2 := h.nd2
  rcases h.ph with ⟨_, _, h3⟩ | ⟨_, _, h3 | ⟨_, h3⟩⟩ <;> omega
theorem FA.way (h : FA N L nm T i r) (hN : 1 ≤ N) (hN7 : N ≤ 7) (hL : L ≤ N) (hn : named nm = true) : way r = true := by
  have h0 := h.le
  have h1 := h.nd1
  have h2 := h.nd2
  have h3 := h.lf
  have h4 := h.n
  have h5 : rmap r.m = true ∧ (r.f || !emp r.m && named r.nm) = true := by
    rcases h.ph with ⟨a, b, _⟩ | ⟨a, b, _⟩
    · exact ⟨b, by rw [a]; rfl⟩
    · refine ⟨by unfold rmap; rw [b, Bool.or_true], ?_⟩
      rw [a, chk_some b, h.nm, hn]
      rfl
  unfold Go.Proofs.Ytlolhdijadhklaa.way rchk rnum goes wit
  rw [h5.1, h5.2, h.d]
  simp only [Bool.and_eq_true, decide_eq_true_eq, Bool.or_eq_true, Bool.not_eq_true', Bool.false_eq_true, false_or, and_true]
  omega
theorem cnt_less (h : 2 ≤ r.lf) : cntW r = lessW r := by
  unfold cntW
  rw [show (r.lf - 1 == 0) = false by simp; omega, if_neg (by simp)]
def pRed : Rp := ⟨1, 0, 0, 0, nil3, zA, nil3⟩
def pMap (T : Am) (u : S3) : Rp := ⟨3, 0, 0, 0, nil3, T, u⟩
def pAns (e t : Int) : Rp := ⟨2, 0, e, t, nil3, zA, nil3⟩
theorem FA.lf2 (h : FA N L nm T i r) (hL : L ≤ 7) : 2 ≤ r.lf := by
  have h0 := h.le
  have h3 := h.lf
  omega
theorem fa_next (h : FA N L nm T i r) (hN : 1 ≤ N) (hN7 : N ≤ 7) (hL : L ≤ N) (hn : named nm = true) (hd : r.nd ≠ L) (u : S3) : FA N L nm T (i + 1) (setUJ (hrdW r pRed) u nil3) ∧ (hrdW r pRed).j = nil3 ∧ (hrdW r pRed).m = r.m := by
  have h1 := h.nd1
  have h2 := h.nd2
  have h4 := h.n
  have hx : nxt r = r.nd + 1 := by
    unfold nxt
    rw [show (r.nd == r.n) = false by simp; omega, if_neg (by simp)]
  have e : hrdW r pRed = lessW (setN r (r.nd + 1)) := by
    rw [hrd_of (r := r) (p := pRed) (h.way hN hN7 hL hn) rfl, trn_red0 (r := r) (p := pRed) rfl rfl, hx]
    exact cnt_less (h.lf2 (by omega))
  rw [e]
  refine ⟨⟨h.d, h.n, h.nm, ?_, rfl, h.z, ?_, ?_, ?_⟩, h.j, rfl⟩
  · show r.lf - 1 = 64 - ((i + 1 : Nat) : Int)
    have := h.lf
    omega
  · show 1 ≤ r.nd + 1
    omega
  · show r.nd + 1 ≤ L
    omega
  · show (r.f = true ∧ rmap r.m = true ∧ ((i + 1 : Nat) : Int) + (L - (r.nd + 1) + 1) + L ≤ 3 * L) ∨ (r.f = false ∧ chk r.m = true ∧ (((i + 1 : Nat) : Int) + (L - (r.nd + 1) + 1) + 2 * L ≤ 3 * L ∨ r.m = T ∧ ((i + 1 : Nat) : Int) + (L - (r.nd + 1) + 1) ≤ 3 * L))
    rcases h.ph with ⟨a, b, c⟩ | ⟨a, b, c | ⟨c, d⟩⟩
    · exact .inl ⟨a, b, by omega⟩
    · exact .inr ⟨a, b, .inl (by omega)⟩
    · exact .inr ⟨a, b, .inr ⟨c, by omega⟩⟩
theorem fa_map (h : FA N L nm T i r) (hN : 1 ≤ N) (hN7 : N ≤ 7) (hL : L ≤ N) (hn : named nm = true) (hd : r.nd = L) (hf : r.f = true) (hT : chk T = true) (hz : Szm T) (u v : S3) : FA N L nm T (i + 1) (setUJ (hrdW r (pMap T u)) v nil3) ∧ (hrdW r (pMap T u)).j = nil3 ∧ (hrdW r (pMap T u)).m = T := by
  have h1 := h.nd1
  have e : hrdW r (pMap T u) = lessW (mapW r (pMap T u)) := by
    rw [hrd_of (r := r) (p := pMap T u) (h.way hN hN7 hL hn) rfl, trn_map' (r := r) (p := pMap T u) rfl hf hT]
    exact cnt_less (h.lf2 (by omega))
  rw [e]
  refine ⟨⟨h.d, h.n, h.nm, ?_, rfl, hz, ?_, ?_, ?_⟩, h.j, rfl⟩
  · show r.lf - 1 = 64 - ((i + 1 : Nat) : Int)
    have := h.lf
    omega
  · show (1 : Int) ≤ 1
    omega
  · show (1 : Int) ≤ L
    omega
  · refine .inr ⟨?_, hT, .inr ⟨rfl, ?_⟩⟩
    · show (!named r.nm) = false
      rw [h.nm, hn]
      rfl
    · show ((i + 1 : Nat) : Int) + (L - 1 + 1) ≤ 3 * L
      rcases h.ph with ⟨a, b, c⟩ | ⟨a, b, c⟩
      · omega
      · rw [hf] at a; cases a
theorem fa_ask (h : FA N L nm T i r) (hN : 1 ≤ N) (hN7 : N ≤ 7) (hL : L ≤ N) (hn : named nm = true) (hd : r.nd = L) (hf : r.f = false) (hT : r.m ≠ T) (v : S3) : FA N L nm T (i + 1) (setUJ (hrdW r (pAns 171 0)) v nil3) ∧ (hrdW r (pAns 171 0)).j = nil3 ∧ (hrdW r (pAns 171 0)).m = r.m := by
  have h1 := h.nd1
  have he : endB r (pAns 171 0) = false := by
    unfold endB astr pAns
    simp
  have e : hrdW r (pAns 171 0) = lessW (askW r) := by
    rw [hrd_of (r := r) (p := pAns 171 0) (h.way hN hN7 hL hn) he, trn_ask' (r := r) (p := pAns 171 0) rfl hf]
    exact cnt_less (h.lf2 (by omega))
  rw [e]
  refine ⟨⟨h.d, h.n, h.nm, ?_, rfl, h.z, ?_, ?_, ?_⟩, h.j, rfl⟩
  · show r.lf - 1 = 64 - ((i + 1 : Nat) : Int)
    have := h.lf
    omega
  · show (1 : Int) ≤ 1
    omega
  · show (1 : Int) ≤ L
    omega
  · rcases h.ph with ⟨a, b, c⟩ | ⟨a, b, c | ⟨c, _⟩⟩
    · rw [hf] at a; cases a
    · refine .inl ⟨rfl, ?_, ?_⟩
      · show rmap r.m = true
        unfold rmap
        rw [b, Bool.or_true]
      · show ((i + 1 : Nat) : Int) + (L - 1 + 1) + L ≤ 3 * L
        omega
    · exact absurd c hT
theorem fa_done (h : FA N L nm T i r) (hN : 1 ≤ N) (hN7 : N ≤ 7) (hL : L ≤ N) (hn : named nm = true) (hf : r.f = false) (v : S3) : FD L (i + 1) (setUJ (hrdW r (pAns 151 7)) v nil3) ∧ (hrdW r (pAns 151 7)).j = nil3 ∧ (hrdW r (pAns 151 7)).m = r.m := by
  have he : endB r (pAns 151 7) = true := by
    unfold endB astr pAns
    rw [hf]
    rfl
  rw [hrd_end (h.way hN hN7 hL hn) he]
  exact ⟨⟨rfl, rfl, rfl, by have := h.le; show ((i + 1 : Nat) : Int) ≤ _; omega, rfl⟩, rfl, rfl⟩
theorem fa_whr (h : FA N L nm T i r) (hN : 1 ≤ N) (hN7 : N ≤ 7) (hL : L ≤ N) (hn : named nm = true) : (r.f = true → whr r = (0, r.nd, 0, 0)) ∧ (r.f = false → whr r = ((findS r.m nm).gr, r.nd, (findS r.m nm).sh, (findS r.m nm).ep) ∧ 1 ≤ (findS r.m nm).gr) := by
  have hw := h.way hN hN7 hL hn
  constructor
  · intro hf
    unfold whr
    rw [hw, if_neg (by simp), if_pos hf]
  · intro hf
    refine ⟨?_, ?_⟩
    · unfold whr
      rw [hw, if_neg (by simp), hf, if_neg (by simp), h.nm]
    · rcases h.ph with ⟨a, _, _⟩ | ⟨_, b, _⟩
      · rw [hf] at a; cases a
      · have rg := chk_is.1 b
        have := findS_at (k := nm) rg (by unfold findB; rw [hn, b]; rfl)
        exact (rg.sp _ (List.mem_of_getElem? this)).2.2.2.2.1
theorem fa_begin {K : Am} {u : S3} (hb : begOk N nm 64 = true) (hL1 : 1 ≤ L) (hz : Szm K) : (chk K = true → FA N L nm T 0 (yesW N nm 64 K u)) ∧ FA N L nm T 0 (noW N nm 64) := by
  constructor
  · intro hc
    exact ⟨rfl, rfl, rfl, rfl, rfl, hz, by show (1 : Int) ≤ 1; omega, hL1, .inr ⟨rfl, hc, .inl (by show ((0 : Nat) : Int) + (L - 1 + 1) + 2 * L ≤ 3 * L; omega)⟩⟩
  · exact ⟨rfl, rfl, rfl, rfl, rfl, szm_Z, by show (1 : Int) ≤ 1; omega, hL1, .inl ⟨rfl, rfl, by show ((0 : Nat) : Int) + (L - 1 + 1) + L ≤ 3 * L; omega⟩⟩
end
end Go.Proofs.Ytlolhdijadhklaa
