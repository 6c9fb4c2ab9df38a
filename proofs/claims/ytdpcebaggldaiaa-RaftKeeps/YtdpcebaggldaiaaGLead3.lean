/- A node at work: it leads (the walk). -/
import Derived.Test.YtdpcebaggldaiaaGLead2
namespace Go.Proofs.Ytdpcebaggldaiaa
open Go.RowKit Trl
open Rft (Nd Mg)
set_option linter.unusedVariables false
set_option maxRecDepth 10000

theorem agree_com (r : Nd) : ∃ c, Rft.agree r = { r with com := c } := by
  unfold Rft.agree
  split
  · exact ⟨r.com, rfl⟩
  · split
    · exact ⟨_, rfl⟩
    · exact ⟨r.com, rfl⟩
theorem lead0_is (r : Nd) : ({ r with role := 2, lead := r.id, left := 2, votes := [], next := filled r.conf.length r.conf.length (r.last + 1), mat := List.replicate r.conf.length 0 } : Nd) = Rft.lead0 r := by
  unfold Rft.lead0 filled
  rw [Nat.sub_self, List.replicate_zero, List.append_nil, List.map_const', List.map_const']
theorem lead1_is (r : Nd) : Rft.grown (Rft.lead0 r) ⟨#[]⟩ = Rft.lead1 r := by
  unfold Rft.grown Rft.lead1
  show (match Rft.more r.b r.k r.l (r.term, ⟨#[]⟩) with | some l => _ | none => _) = _
  cases Rft.more r.b r.k r.l (r.term, ⟨#[]⟩) <;> rfl
/-- What is known of a node that has its own entry. -/
theorem lead1_has (r : Nd) (hk : chk r.b r.k r.l = true) : ∃ l, Rft.lead1 r = { Rft.lead0 r with l := l } ∧ chk r.b r.k l = true ∧ r.l.length ≤ l.length := by
  unfold Rft.lead1 Rft.more
  split
  · rename_i l h
    split at h
    · rename_i h2
      injection h with h
      subst h
      exact ⟨_, rfl, h2, by rw [List.length_append]; omega⟩
    · cases h
  · exact ⟨r.l, rfl, hk, Nat.le_refl _⟩
theorem at0_map {l : List Int} {x : Int} {i : Nat} (h : i < l.length) : Rft.at0 (l.map fun _ => x) i = x := by
  unfold Rft.at0
  rw [List.getD_eq_getElem?_getD, List.getElem?_map, List.getElem?_eq_getElem h]
  rfl
theorem at0_set {l : List Int} {x : Int} {i j : Nat} (h : i < l.length) : Rft.at0 (l.set j x) i = if j = i then x else Rft.at0 l i := by
  unfold Rft.at0
  rw [List.getD_eq_getElem?_getD, List.getElem?_set]
  by_cases e : j = i
  · subst e; rw [if_pos rfl, if_pos rfl, if_pos h]; rfl
  · rw [if_neg e, if_neg e, List.getD_eq_getElem?_getD]
theorem lead_pushes (r : Nd) (hk : chk r.b r.k r.l = true) (h7 : r.conf.length ≤ 7) : Pushes (Rft.leadN r) := by
  obtain ⟨l, e1, h1, h2⟩ := lead1_has r hk
  obtain ⟨p1, p2, p3, p4, p5, p6, p7⟩ := chk_parts hk
  have hl0 : 0 ≤ r.last := by unfold Nd.last; omega
  unfold Rft.leadN
  obtain ⟨c, ec⟩ := agree_com (Rft.own (Rft.lead1 r))
  rw [ec, e1]
  have hlast : r.last ≤ r.b + (l.length : Int) := by unfold Nd.last; omega
  refine ⟨h1, h7, ?_, fun i hi => ?_⟩
  · show (List.set (r.conf.map fun _ => r.last + 1) _ _).length = r.conf.length
    rw [List.length_set, List.length_map]
  · have hi : i < r.conf.length := hi
    show 0 ≤ Rft.at0 (List.set (r.conf.map fun _ => r.last + 1) _ (r.b + (l.length : Int) + 1)) i ∧ Rft.at0 (List.set (r.conf.map fun _ => r.last + 1) _ (r.b + (l.length : Int) + 1)) i ≤ r.b + (l.length : Int) + 1
    rw [at0_set (by rw [List.length_map]; exact hi), at0_map hi]
    split <;> omega
theorem chg_set_alloc (X : World) (b i : Nat) (v : Value) (o : Obj) : Chg (fun k => k = b) (X.alloc o) ((X.setCell ⟨b, i, none⟩ v).alloc o) := by
  have hs := size_set X ⟨b, i, none⟩ v
  refine ⟨rfl, rfl, rfl, by simp [hs], fun k hk hn => ?_⟩
  by_cases e : k = X.heap.size
  · have h1 : ∀ Y : World, (Y.alloc o).heap[Y.heap.size]? = some o := fun Y => by show (Y.heap.push o)[Y.heap.size]? = some o; simp
    have h2 := h1 (X.setCell ⟨b, i, none⟩ v)
    rw [hs] at h2
    rw [e, h2, h1 X]
  · have hk : k < X.heap.size := by simp at hk; omega
    rw [(World.grownBy_alloc (X.setCell ⟨b, i, none⟩ v) o none).block k (by omega) (by simp), (World.grownBy_alloc X o none).block k hk (by simp)]
    exact Below.heap_setCell _ _ _ _ (fun c => hn (by simpa using c))
set_option maxRecDepth 100000 in
set_option maxHeartbeats 3200000 in
theorem lead_o {w : World} {base b : Nat} {r : Nd} {L : List Mg} {c : S3} (h : Ob w base b r L c) (hk : chk r.b r.k r.l = true) (hc7 : r.conf.length ≤ 7) (hid : Quo.has r.conf r.id = true) (ht : 1 ≤ r.term) (hL : L.length ≤ 4000) :
    Calls Try.prog 54 #[.pointer (some ⟨b, 0, none⟩)] w fun e w' => e = .returned (.tuple #[]) ∧ Ob w' base b (Rft.leadN r) (Rft.leadL r L) c ∧ Kp base w w' := by
  obtain ⟨p1, p2, p3, p4, p5, p6, p7⟩ := chk_parts hk
  have hlast : r.last = r.b + (r.l.length : Int) := rfl
  have lb : 0 ≤ r.last ∧ r.last ≤ 1099511627776 := by omega
  have GO : Hid (∀ W, Ob W base b (Rft.lead0 r) L c → _) := fun W hO => grow_o (r := Rft.lead0 r) ⟨#[]⟩ hO hk
  have PA : Hid (∀ W L', Ob W base b (Rft.leadN r) L' c → L'.length ≤ 4000 → _) := fun W L' hO hL' => pushAll_o hO (lead_pushes r hk hc7) hL'
  obtain ⟨l1, e1, k1, k2⟩ := lead1_has r hk
  have KU : Hid (∀ W, Ob W base b (Rft.lead1 r) L c → _) := fun W hO => keepUp_o hO (by rw [e1]; exact k1) (by rw [e1]; exact hc7) (by rw [e1]; exact List.length_map _) (by rw [e1]; exact List.length_map _) (by rw [e1]; exact hid)
  have AG : Hid (∀ W, Ob W base b (Rft.own (Rft.lead1 r)) L c → _) := fun W hO => agree_o hO (by rw [e1]; exact k1) (by rw [e1]; exact hc7) (by rw [e1]; show (List.set _ _ _).length = r.conf.length; rw [List.length_set]; exact List.length_map _) (by rw [e1]; exact ht)
  rw [lead1_is] at GO
  have E0 := lead0_is r
  obtain ⟨X, V, s, T, h0, hX, rfl⟩ := id h
  obtain ⟨N, hN⟩ : ∃ N, r.conf.length = N := ⟨_, rfl⟩
  have NL : Hid (r.conf.length = N) := hN
  rw [hN] at hc7 E0
  have HE0 : Hid _ := E0
  have lc := h0.c.len
  rw [hN] at lc
  have CL : Hid (V.c.n = N) := lc
  have q0 := h0.cs.at_ 0 rfl
  have q4 := h0.cs.at_ 4 rfl
  have q5 := h0.cs.at_ 5 rfl
  have q11 := h0.cs.at_ 11 rfl
  have q13 := h0.cs.at_ 13 rfl
  have f4 := h0.cs.2.1 4
  have f5 := h0.cs.2.1 5
  have f11 := h0.cs.2.1 11
  have f13 := h0.cs.2.1 13
  have H0 : Hid (Oc w base b r X V s T) := h0
  have HX : Hid (X.map (·.1) = L) := hX
  clear h h0 hX p7 hN E0 e1 k1 lc
  go_enter Try.func54, Try.ntmps54
  go_upto_region 1 with fail
  have C1 := chg_setb (chg_setb (chg_setb (chg_setb (Chg.refl (fun k => k = b) w) b 4 (.int .i64 2) rfl) b 5 (.int .i64 r.id) rfl) b 11 (.int .i64 2) rfl) b 13 (.slice none 0 0) rfl
  have O1 : Oc _ base b { r with role := 2, lead := r.id, left := 2, votes := [] } X { V with v := nil3 } s T := H0.out.turn C1 ((((H0.out.cs.set 4 _).set 5 _).set 11 _).set 13 _) ⟨rfl, rfl⟩ (.inl ⟨rfl, rfl⟩) (.inr ⟨rfl, rfl⟩) (.inl ⟨rfl, rfl⟩) (.inl ⟨rfl, rfl⟩)
  generalize (((w.setCell ⟨b, 4, none⟩ (.int .i64 2)).setCell ⟨b, 5, none⟩ (.int .i64 r.id)).setCell ⟨b, 11, none⟩ (.int .i64 2)).setCell ⟨b, 13, none⟩ (.slice none 0 0) = w1 at *
  have KW1 : Hid (Kp base w w1) := C1.toKp H0.out.hb
  have HO1 : Hid (Oc w1 base b { r with role := 2, lead := r.id, left := 2, votes := [] } X { V with v := nil3 } s T) := O1
  obtain ⟨M, mk, mO⟩ := make_n N hc7
  have MO : Hid (∀ W : World, eN.Own (W.alloc (.cells M 2)) W.heap.size (.slice (some ⟨W.heap.size, 0, none⟩) N N) (List.replicate N 0)) := mO
  have x1 : w1.cell? ⟨b, 1, none⟩ = some (.slice V.c.a N V.c.c) := by have := O1.cs.at_ 1 rfl; rw [CL.out] at this; exact this
  have x1' : ∀ o, (w1.alloc o).cell? ⟨b, 1, none⟩ = some (.slice V.c.a N V.c.c) := fun o => (World.grownBy_alloc w1 o none).cell x1 (by simp)
  have O2 : ∀ o o', Oc ((w1.alloc o).alloc o') base b { r with role := 2, lead := r.id, left := 2, votes := [] } X { V with v := nil3 } s T := fun o o' => O1.grown (grown_alloc (World.grownBy_alloc w1 o none) o')
  have x14 : ∀ o o', ((w1.alloc o).alloc o').cell? ⟨b, 14, none⟩ = some (.slice V.n.a V.n.n V.n.c) := fun o o' => (O2 o o').cs.at_ 14 rfl
  have x15 : ∀ o o', ((w1.alloc o).alloc o').cell? ⟨b, 15, none⟩ = some (.slice V.m.a V.m.n V.m.c) := fun o o' => (O2 o o').cs.at_ 15 rfl
  have y14 : ∀ o o', ((w1.alloc o).alloc o').frozen? ⟨b, 14, none⟩ = false := fun o o' => (O2 o o').cs.2.1 14
  have y15 : ∀ o o', ((w1.alloc o).alloc o').frozen? ⟨b, 15, none⟩ = false := fun o o' => (O2 o o').cs.2.1 15
  have O3 : ∀ o, Oc (w1.alloc o) base b { r with role := 2, lead := r.id, left := 2, votes := [] } X { V with v := nil3 } s T := fun o => O1.grown (World.grownBy_alloc w1 o none)
  have v14 : ∀ o, (w1.alloc o).cell? ⟨b, 14, none⟩ = some (.slice V.n.a V.n.n V.n.c) := fun o => (O3 o).cs.at_ 14 rfl
  have u14 : ∀ o, (w1.alloc o).frozen? ⟨b, 14, none⟩ = false := fun o => (O3 o).cs.2.1 14
  have C3 : ∀ o v o', Cs (((w1.alloc o).setCell ⟨b, 14, none⟩ v).alloc o') b ((oc { r with role := 2, lead := r.id, left := 2, votes := [] } { V with v := nil3 } s).set 14 v) := fun o v o' => ((O3 o).cs.set 14 v).grown (World.grownBy_alloc _ o' none)
  have v15 : ∀ o v o', (((w1.alloc o).setCell ⟨b, 14, none⟩ v).alloc o').cell? ⟨b, 15, none⟩ = some (.slice V.m.a V.m.n V.m.c) := fun o v o' => (C3 o v o').at_ 15 rfl
  have u15 : ∀ o v o', (((w1.alloc o).setCell ⟨b, 14, none⟩ v).alloc o').frozen? ⟨b, 15, none⟩ = false := fun o v o' => (C3 o v o').2.1 15
  have HC3 : Hid (∀ o v o', Cs (((w1.alloc o).setCell ⟨b, 14, none⟩ v).alloc o') b ((oc { r with role := 2, lead := r.id, left := 2, votes := [] } { V with v := nil3 } s).set 14 v)) := C3
  have HO2 : Hid (∀ o o', Cs ((w1.alloc o).alloc o') b (oc { r with role := 2, lead := r.id, left := 2, votes := [] } { V with v := nil3 } s)) := fun o o' => (O2 o o').cs
  have hb1 : Hid (base ≤ b) := O1.hb
  have hgr := grown_alloc (World.grownBy_alloc w1 (.cells M 2) none) (.cells M 2)
  have ow1 := (mO w1).grown (World.grownBy_alloc (w1.alloc (.cells M 2)) (.cells M 2) none)
  have ow2 := (mO (w1.alloc (.cells M 2))).low (base' := w1.heap.size) (by simp)
  have es : (w1.alloc (.cells M 2)).heap.size = w1.heap.size + 1 := by simp
  rw [es] at ow2
  have FA : ∀ gn gm, (gn = w1.heap.size ∧ gm = w1.heap.size + 1) ∨ (gn = w1.heap.size + 1 ∧ gm = w1.heap.size) → Ob ((((w1.alloc (.cells M 2)).alloc (.cells M 2)).setCell ⟨b, 14, none⟩ (.slice (some ⟨gn, 0, none⟩) N N)).setCell ⟨b, 15, none⟩ (.slice (some ⟨gm, 0, none⟩) N N)) base b { r with role := 2, lead := r.id, left := 2, votes := [], next := filled N 0 (r.last + 1), mat := List.replicate N 0 } L V.c ∧ Kp base w1 ((((w1.alloc (.cells M 2)).alloc (.cells M 2)).setCell ⟨b, 14, none⟩ (.slice (some ⟨gn, 0, none⟩) N N)).setCell ⟨b, 15, none⟩ (.slice (some ⟨gm, 0, none⟩) N N)) := fun gn gm hg => by
    have C := chg_setb (chg_setb (Chg.refl (fun k => k = b) ((w1.alloc (.cells M 2)).alloc (.cells M 2))) b 14 (.slice (some ⟨gn, 0, none⟩) N N) rfl) b 15 (.slice (some ⟨gm, 0, none⟩) N N) rfl
    obtain ⟨T', O'⟩ := O1.nums (r' := { r with role := 2, lead := r.id, left := 2, votes := [], next := filled N 0 (r.last + 1), mat := List.replicate N 0 }) (V' := { V with v := nil3, n := ⟨some ⟨gn, 0, none⟩, N, N⟩, m := ⟨some ⟨gm, 0, none⟩, N, N⟩ }) hgr (by rcases hg with ⟨rfl, rfl⟩ | ⟨rfl, rfl⟩; exact ow1; exact ow2) (by rcases hg with ⟨rfl, rfl⟩ | ⟨rfl, rfl⟩; exact ow2; exact ow1) (by omega) C (((O2 _ _).cs.set 14 _).set 15 _) ⟨rfl, rfl⟩ ⟨rfl, rfl⟩ (.inr ⟨rfl, rfl⟩) rfl rfl
    exact ⟨⟨X, _, s, T', O', HX.out, rfl⟩, (Kp.of hgr).trans (C.toKp O1.hb)⟩
  have FB : Ob ((((w1.alloc (.cells M 2)).setCell ⟨b, 14, none⟩ (.slice (some ⟨w1.heap.size, 0, none⟩) N N)).alloc (.cells M 2)).setCell ⟨b, 15, none⟩ (.slice (some ⟨w1.heap.size + 1, 0, none⟩) N N)) base b { r with role := 2, lead := r.id, left := 2, votes := [], next := filled N 0 (r.last + 1), mat := List.replicate N 0 } L V.c ∧ Kp base w1 ((((w1.alloc (.cells M 2)).setCell ⟨b, 14, none⟩ (.slice (some ⟨w1.heap.size, 0, none⟩) N N)).alloc (.cells M 2)).setCell ⟨b, 15, none⟩ (.slice (some ⟨w1.heap.size + 1, 0, none⟩) N N)) := by
    have C := chg_setb (chg_set_alloc (w1.alloc (.cells M 2)) b 14 (.slice (some ⟨w1.heap.size, 0, none⟩) N N) (.cells M 2)) b 15 (.slice (some ⟨w1.heap.size + 1, 0, none⟩) N N) rfl
    obtain ⟨T', O'⟩ := O1.nums (r' := { r with role := 2, lead := r.id, left := 2, votes := [], next := filled N 0 (r.last + 1), mat := List.replicate N 0 }) (V' := { V with v := nil3, n := ⟨some ⟨w1.heap.size, 0, none⟩, N, N⟩, m := ⟨some ⟨w1.heap.size + 1, 0, none⟩, N, N⟩ }) hgr ow1 ow2 (by omega) C ((C3 _ _ _).set 15 _) ⟨rfl, rfl⟩ ⟨rfl, rfl⟩ (.inr ⟨rfl, rfl⟩) rfl rfl
    exact ⟨⟨X, _, s, T', O', HX.out, rfl⟩, (Kp.of hgr).trans (C.toKp O1.hb)⟩
  have DR : ∀ {W : World} {r' : Nd}, Ob W base b r' L V.c ∧ Kp base w1 W → Hid (Ob W.drew base b r' L V.c ∧ Kp base w1 W.drew) := fun {W r'} h => ⟨h.1.grown (grown_drew (grown_refl W none)), h.2.grown (grown_drew (grown_refl W none))⟩
  have FA1 := DR (FA w1.heap.size (w1.heap.size + 1) (.inl ⟨rfl, rfl⟩))
  have FA2 := DR (FA (w1.heap.size + 1) w1.heap.size (.inr ⟨rfl, rfl⟩))
  have FB1 := DR FB
  clear O1 O2 O3 C1 C3 mO q0 q4 q5 q11 q13 f4 f5 f11 f13 FA FB DR hgr ow1 ow2 es
  go_cut [24] from 25 to 45 (fun t24 wx => t24 = .pointer (some ⟨b, 0, none⟩) ∧ Hid (Ob wx base b { r with role := 2, lead := r.id, left := 2, votes := [], next := filled N 0 (r.last + 1), mat := List.replicate N 0 } L V.c ∧ Kp base w1 wx))
  case first =>
    go_region_with (fail)
    all_goals
      go_wp2_with fail
      go_meet
      first | exact ⟨rfl, FA1⟩ | exact ⟨rfl, FA2⟩ | exact ⟨rfl, FB1⟩
  case rest =>
    obtain ⟨rfl, CF⟩ := hcut
    clear FA1 FA2 FB1 x1 x1' x14 x15 y14 y15 v14 u14 v15 u15 HC3 HO2 MO mk HO1 H0 HX
    have KW2 : Hid (Kp base w wc) := KW1.out.trans CF.out.2
    have hC : Hid (∀ {W : World} {nx : List Int}, Ob W base b { r with role := 2, lead := r.id, left := 2, votes := [], next := nx, mat := List.replicate N 0 } L V.c → ∃ (a : Option Addr) (k : Nat), W.cell? ⟨b, 14, none⟩ = some (.slice a nx.length k)) := fun {W nx} h => by
      obtain ⟨X, V', s, T, h0, hX, e⟩ := h
      have h1 := h0.cs.at_ 14 rfl
      have h2 := h0.n.len
      exact ⟨V'.n.a, V'.n.c, by rw [h1, h2]⟩
    obtain ⟨a0, k0, d14⟩ := hC.out CF.out.1
    rw [filled_len (Nat.zero_le N)] at d14
    have LA : Hid (∀ (W : World) (nx : List Int), Ob W base b { r with role := 2, lead := r.id, left := 2, votes := [], next := nx, mat := List.replicate N 0 } L V.c → Calls Try.prog 57 #[.pointer (some ⟨b, 0, none⟩)] W fun e w' => e = .returned (.int .i64 r.last) ∧ W.grownBy w' none) := fun W nx hO => by
      obtain ⟨X, V', s, T, h0, hX, e⟩ := hO
      have h := last_w h0 hk
      exact h
    have SN : Hid (∀ {W : World} {nx : List Int} (j : Nat), Ob W base b { r with role := 2, lead := r.id, left := 2, votes := [], next := nx, mat := List.replicate N 0 } L V.c → nx.length = N → j < N → ∃ g k, (∀ {W' : World}, W.grownBy W' none → W'.cell? ⟨b, 14, none⟩ = some (.slice (some ⟨g, 0, none⟩) N k) ∧ (∃ u, W'.cell? ⟨g, j, none⟩ = some u) ∧ W'.frozen? ⟨g, j, none⟩ = false ∧ Ob (W'.setCell ⟨g, j, none⟩ (.int .i64 (r.last + 1))) base b { r with role := 2, lead := r.id, left := 2, votes := [], next := nx.set j (r.last + 1), mat := List.replicate N 0 } L V.c ∧ Kp base W' (W'.setCell ⟨g, j, none⟩ (.int .i64 (r.last + 1))))) := fun {W nx} j hO hl hj => by
      obtain ⟨X, V', s, T, h0, hX, e⟩ := hO
      have h2 := h0.n.len
      have h2 : V'.n.n = nx.length := h2
      obtain ⟨g, u0, a1, _⟩ := h0.setN (i := j) (by show j < nx.length; omega) (by show nx.length ≤ 7; omega) (r.last + 1)
      refine ⟨g, V'.n.c, fun {W'} gr => ?_⟩
      obtain ⟨g', u0', b1, b2, b3, b4, b5, b6, b7, O2⟩ := (h0.grown gr).setN (i := j) (by show j < nx.length; omega) (by show nx.length ≤ 7; omega) (r.last + 1)
      rw [a1] at b1
      injection b1 with b1
      injection b1 with b1
      subst b1
      have h1 := (h0.grown gr).cs.at_ 14 rfl
      refine ⟨by rw [h1, a1, h2, hl], ⟨u0', b2⟩, b3, ⟨X, V', s, T, O2, hX, e⟩, chg_setb (Chg.refl _ W') g j _ b4⟩
    have O0 : Hid (Ob wc base b { r with role := 2, lead := r.id, left := 2, votes := [], next := filled N 0 (r.last + 1), mat := List.replicate N 0 } L V.c) := CF.out.1
    have FL : Hid (∀ j, j ≤ N → (filled N j (r.last + 1)).length = N) := fun j hj => filled_len hj
    have FS : Hid (∀ j, j < N → (filled N j (r.last + 1)).set j (r.last + 1) = filled N (j + 1) (r.last + 1)) := fun j hj => filled_set hj
    have wr1 : IntKind.i64.wrap (r.last + 1) = r.last + 1 := by rw [IntKind.wrap_i64]; omega
    clear CF KW1 hlast p5 p6 hb1 hC
    have LS : Hid (∀ {y : Int}, y = r.last → y = r.last) := id
    go_wp2_with fail
    clear d14
    go_loopw [2, 52] (fun _ i wr => ∃ j : Nat, j ≤ N ∧ i = .int .i64 (j : Int) ∧ Hid (Ob wr base b { r with role := 2, lead := r.id, left := 2, votes := [], next := filled N j (r.last + 1), mat := List.replicate N 0 } L V.c) ∧ Hid (Kp base w wr)) (fun _ i _ => N - (intOf i).toNat)
    case atStart => exact ⟨0, by omega, rfl, O0.out, KW2.out⟩
    case round =>
      obtain ⟨j, hj, rfl, O, K⟩ := hrel
      by_cases hlt : j < N
      · obtain ⟨g, k, SS⟩ := SN.out j O.out (FL.out j hj) hlt
        have S2 : Hid _ := @SS
        clear SS
        have L1 := LA.out wr.drew _ (O.out.grown (grown_drew (grown_refl wr none)))
        obtain ⟨z14, _⟩ := S2.out (grown_drew (grown_refl wr none))
        have iN : (j : Int) < (N : Int) := by omega
        have E := FS.out j hlt
        have E' : Hid _ := E
        clear E
        go_upto_region 5 with fail
        go_region_with (go_at_call 57; (with_reducible refine L1.mono ?_); rintro e w3 ⟨rfl, g3⟩; have G3 := grown_tr (grown_drew (grown_refl wr none)) g3; obtain ⟨i14, ⟨u, iu⟩, fu, _⟩ := S2.out G3)
        all_goals
          go_wp2_with fail
          go_roundw
          case rel =>
            obtain ⟨_, _, _, O4, K4⟩ := S2.out G3
            rw [E'.out] at O4
            exact ⟨j + 1, by omega, by go_num, O4, (K.out.grown G3).trans K4⟩
          case measure => simp [intOf]; omega
      · have E : Hid (j = N) := by show _ = _; omega
        have OE : Ob wr base b (Rft.lead0 r) L V.c := by have h := O.out; rw [E.out] at h; rw [← HE0.out]; exact h
        have G1 := GO.out wr OE
        go_wp2_with (first
          | (go_at_call 65; (with_reducible refine G1.mono ?_); rintro e w3 ⟨rfl, o3, k3⟩; have K1 := KU.out _ o3)
          | (go_at_call 66; (with_reducible refine K1.mono ?_); rintro e w4 ⟨rfl, o4, k4⟩; have A1 := AG.out _ o4)
          | (go_at_call 61; (with_reducible refine A1.mono ?_); rintro e w5 ⟨rfl, o5, k5⟩; have P1 := PA.out _ _ o5 hL)
          | (go_at_call 38; (with_reducible refine P1.mono ?_); rintro e w6 ⟨rfl, o6, k6⟩))
        go_end0
        exact ⟨rfl, o6, (((K.out.trans k3).trans k4).trans k5).trans k6⟩
end Go.Proofs.Ytdpcebaggldaiaa
