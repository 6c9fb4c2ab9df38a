/- A mesh, the reference's one, and boxes beside them. -/
import Derived.Test.YtffbaomaiohdiaaMRef6
import Derived.Test.YtffbaomaiohdiaaMInv2
namespace Go.Proofs.Ytffbaomaiohdiaa
open Go.RowKit Msh
set_option linter.unusedVariables false
set_option maxRecDepth 10000

def Tri (W w : World) (b : Nat) (s : Ms) (q : Nat) (t : Ms) (bx : List (Nat × List Value)) : Prop :=
  ∃ F G, Me w b s F ∧ Rm w q t G ∧ (∀ k, F k → ¬ G k) ∧ (∀ k, F k → W.heap.size ≤ k) ∧ (∀ k, G k → W.heap.size ≤ k) ∧ W.grownBy w none ∧
    ∀ x ∈ bx, ¬ F x.1 ∧ ¬ G x.1 ∧ x.1 < w.heap.size ∧ ∀ j u, x.2[j]? = some u → w.cell? ⟨x.1, j, none⟩ = some u
section
variable {W w w' : World} {b q : Nat} {s s' t t' : Ms} {bx : List (Nat × List Value)}
theorem Tri.rd (d : Tri W w b s q t bx) {B : Nat} {cs : List Value} (h : (B, cs) ∈ bx) {j : Nat} {u : Value} (hj : cs[j]? = some u) : w.cell? ⟨B, j, none⟩ = some u := by
  obtain ⟨F, G, _, _, _, _, _, _, hB⟩ := d
  exact (hB _ h).2.2.2 j u hj
theorem Tri.base (d : Tri W w b s q t bx) : W.grownBy w none := by obtain ⟨F, G, _, _, _, _, _, hW, _⟩ := d; exact hW
theorem Tri.ok (d : Tri W w b s q t bx) : Ok s := by obtain ⟨F, G, hM, _⟩ := d; exact hM.ok
theorem Tri.less (d : Tri W w b s q t bx) : Tri W w b s q t [] := by
  obtain ⟨F, G, h1, h2, h3, h4, h5, h6, _⟩ := d
  exact ⟨F, G, h1, h2, h3, h4, h5, h6, by simp⟩
theorem Tri.grown (d : Tri W w b s q t bx) (g : w.grownBy w' none) : Tri W w' b s q t bx := by
  obtain ⟨F, G, h1, h2, h3, h4, h5, h6, h7⟩ := d
  have := g.size
  exact ⟨F, G, h1.grown g, h2.grown g, h3, h4, h5, grown_tr h6 g, fun x hx => ⟨(h7 x hx).1, (h7 x hx).2.1, by have := (h7 x hx).2.2.1; omega, fun j u hj => g.cell ((h7 x hx).2.2.2 j u hj) (by simp)⟩⟩
theorem Tri.box (d : Tri W w b s q t bx) (C : Array Value) (ty : TypeId) : Tri W (w.alloc (.cells C ty)) b s q t ((w.heap.size, C.toList) :: bx) := by
  have g := World.grownBy_alloc w (.cells C ty) none
  have hsz : (w.alloc (.cells C ty)).heap.size = w.heap.size + 1 := by simp
  obtain ⟨F, G, h1, h2, h3, h4, h5, h6, h7⟩ := d
  refine ⟨F, G, h1.grown g, h2.grown g, h3, h4, h5, grown_tr h6 g, fun x hx => ?_⟩
  rcases List.mem_cons.1 hx with rfl | hx
  · refine ⟨fun e => ?_, fun e => ?_, by simp only; omega, fun j u hj => new_at w rfl (by simpa using hj)⟩
    · have := h1.lt _ e; simp only at this; omega
    · have := h2.lt _ e; simp only at this; omega
  · exact ⟨(h7 x hx).1, (h7 x hx).2.1, by have := (h7 x hx).2.2.1; omega, fun j u hj => g.cell ((h7 x hx).2.2.2 j u hj) (by simp)⟩
theorem Tri.call (d : Tri W w b s q t bx) {f : FuncId} {args : Array Value} {v : Value} (C : ∀ F, Me w b s F → Calls Try.prog f args w fun e w' => e = .returned v ∧ Left w w' b s' F) :
    Calls Try.prog f args w fun e w' => e = .returned v ∧ Tri W w' b s' q t bx := by
  obtain ⟨F, G, h1, h2, h3, h4, h5, h6, h7⟩ := d
  refine (C F h1).mono ?_
  rintro e w' ⟨rfl, F', k1, k2, k3⟩
  have hs := h6.size
  have hs' := k3.size
  refine ⟨rfl, F', G, k1, h2.kept k3 (fun k hk hf => h3 k hf hk), fun k hk hg => ?_, fun k hk => ?_, h5, ?_, fun x hx => ⟨fun e => ?_, (h7 x hx).2.1, by have := (h7 x hx).2.2.1; omega, fun j u hj => k3.cell ((h7 x hx).2.2.2 j u hj) (h7 x hx).1⟩⟩
  · rcases k2 k hk with e | e
    · exact h3 k e hg
    · have := h2.lt k hg; omega
  · rcases k2 k hk with e | e
    · exact h4 k e
    · omega
  · exact ((Chg.of (F := fun _ => False) h6 (by simp)).trans k3 fun k hk => .inr (h4 k hk)).none
  · rcases k2 _ e with e | e
    · exact (h7 x hx).1 e
    · have := (h7 x hx).2.2.1; omega
theorem Tri.rcall (d : Tri W w b s q t bx) {f : FuncId} {args : Array Value} {v : Value} (C : ∀ F, Rm w q t F → Calls Try.prog f args w fun e w' => e = .returned v ∧ RLeft w w' q t' F) :
    Calls Try.prog f args w fun e w' => e = .returned v ∧ Tri W w' b s q t' bx := by
  obtain ⟨F, G, h1, h2, h3, h4, h5, h6, h7⟩ := d
  refine (C G h2).mono ?_
  rintro e w' ⟨rfl, G', k1, k2, k3⟩
  have hs := h6.size
  have hs' := k3.size
  refine ⟨rfl, F, G', h1.kept k3 (fun k hk hf => h3 k hk hf), k1, fun k hk hg => ?_, h4, fun k hk => ?_, ?_, fun x hx => ⟨(h7 x hx).1, fun e => ?_, by have := (h7 x hx).2.2.1; omega, fun j u hj => k3.cell ((h7 x hx).2.2.2 j u hj) (h7 x hx).2.1⟩⟩
  · rcases k2 k hg with e | e
    · exact h3 k hk e
    · have := h1.lt k hk; omega
  · rcases k2 k hk with e | e
    · exact h5 k e
    · omega
  · exact ((Chg.of (F := fun _ => False) h6 (by simp)).trans k3 fun k hk => .inr (h5 k hk)).none
  · rcases k2 _ e with e | e
    · exact (h7 x hx).2.1 e
    · have := (h7 x hx).2.2.1; omega
/-- The reference's mesh, made beside one. -/
theorem tri_new (d : Duo W w b ⟨[], 0, []⟩ Alone) : Tri W (w.alloc (.cells #[.slice none 0 0, .int .i64 0, .slice none 0 0] 30)) b ⟨[], 0, []⟩ w.heap.size ⟨[], 0, []⟩ [] := by
  obtain ⟨F, G, hM, hR, hd, hF, hG, hW⟩ := d
  have g := World.grownBy_alloc w (.cells #[.slice none 0 0, .int .i64 0, .slice none 0 0] 30) none
  have := hW.size
  refine ⟨F, fun k => k = w.heap.size, hM.grown g, ⟨.slice none 0 0, .slice none 0 0, ⟨new_at w rfl rfl, new_at w rfl rfl, new_at w rfl rfl, fun i => by simp, Elm.nil _ _, Elm.nil _ _, by simp [Value.ownBlock], by simp [Value.ownBlock], by simp [Value.ownBlock], ok_new⟩, fun k => by simp [Value.ownBlock]⟩, fun k hk e => ?_, hF, fun k hk => by omega, grown_tr hW g, by simp⟩
  have := hM.lt k hk
  omega
/-- Both lists, read. -/
theorem Tri.refl_row (d : Tri W w b s q t bx) : ∃ vl, w.cell? ⟨q, 0, none⟩ = some vl ∧ ∀ w', w.grownBy w' none → w'.cell? ⟨q, 0, none⟩ = some vl ∧ eP.Own w' 0 vl t.l := by
  obtain ⟨F, G, h1, ⟨vl, vc, k1, k2⟩, _⟩ := d
  exact ⟨vl, k1.c0, fun w' g => ⟨(k1.grown g).c0, (k1.grown g).row⟩⟩
theorem Tri.flight (d : Tri W w b s q t bx) : Calls Try.prog 24 #[.pointer (some ⟨b, 0, none⟩)] w fun e w' => ∃ ad c, e = .returned (.slice ad s.l.length c) ∧ eP.Own w' 0 (.slice ad s.l.length c) s.l ∧ w.grownBy w' none := by
  obtain ⟨F, G, h1, _⟩ := d
  exact (flight_any b s F w h1).mono fun e w' ⟨ad, c, he, hO, hg⟩ => ⟨ad, c, he, hO.low (Nat.zero_le _), hg⟩
end
theorem n_send (s : Ms) (fm tt : Int) (body : ByteArray) : (sendS s fm tt body).n ≤ s.n + 1 ∧ (sendS s fm tt body).cs = s.cs := by
  unfold sendS entS
  split
  · exact ⟨by omega, rfl⟩
  · split
    · exact ⟨by omega, rfl⟩
    · exact ⟨Nat.le_refl _, rfl⟩
theorem n_dbl (s : Ms) (id : Int) : (dblS s id).n ≤ s.n + 1 ∧ (dblS s id).cs = s.cs := by
  unfold dblS entS
  split
  · split
    · exact ⟨by omega, rfl⟩
    · exact ⟨Nat.le_refl _, rfl⟩
  · exact ⟨by omega, rfl⟩
theorem n_drop (s : Ms) (id : Int) : (dropS s id).n = s.n ∧ (dropS s id).cs = s.cs := by unfold dropS outS; split <;> exact ⟨rfl, rfl⟩
theorem n_dlv (s : Ms) (id : Int) : (dlvS s id).n = s.n ∧ (dlvS s id).cs = s.cs := by unfold dlvS outS; split <;> exact ⟨rfl, rfl⟩
theorem n_nxt (s : Ms) : (nxtS s).n = s.n ∧ (nxtS s).cs = s.cs := by unfold nxtS outS; split <;> exact ⟨rfl, rfl⟩
end Go.Proofs.Ytffbaomaiohdiaa
