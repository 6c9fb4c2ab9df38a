/- A mesh beside something else, both made since a world. -/
import Derived.Test.YtffbaomaiohdiaaMNext
namespace Go.Proofs.Ytffbaomaiohdiaa
open Go.RowKit Msh
set_option linter.unusedVariables false
set_option maxRecDepth 10000

/-- What stays where only other blocks turn. -/
def Kept (R : World → (Nat → Prop) → Prop) : Prop := ∀ (w w' : World) (G H : Nat → Prop), R w G → Chg H w w' → (∀ k, G k → ¬ H k) → R w' G
def Duo (W w : World) (b : Nat) (s : Ms) (R : World → (Nat → Prop) → Prop) : Prop :=
  ∃ F G, Me w b s F ∧ R w G ∧ (∀ k, F k → ¬ G k) ∧ (∀ k, F k → W.heap.size ≤ k) ∧ (∀ k, G k → W.heap.size ≤ k ∧ k < w.heap.size) ∧ W.grownBy w none
/-- Nothing beside. -/
def Alone (w : World) (G : Nat → Prop) : Prop := ∀ k, ¬ G k
theorem kept_alone : Kept Alone := fun _ _ _ _ h _ _ => h
theorem kept_me (b : Nat) (s : Ms) : Kept (fun w G => Me w b s G) := fun w w' G H h C hn => h.kept C hn
section
variable {W w w' : World} {b : Nat} {s s' : Ms} {R : World → (Nat → Prop) → Prop}
theorem Duo.left (K : Kept R) {F G : Nat → Prop} (hM : Me w b s F) (hR : R w G) (hd : ∀ k, F k → ¬ G k) (hF : ∀ k, F k → W.heap.size ≤ k) (hG : ∀ k, G k → W.heap.size ≤ k ∧ k < w.heap.size) (hW : W.grownBy w none) (L : Left w w' b s' F) : Duo W w' b s' R := by
  obtain ⟨F', h1, h2, h3⟩ := L
  have hs := hW.size
  have hs' := h3.size
  refine ⟨F', G, h1, K w w' G F hR h3 (fun k hk hf => hd k hf hk), fun k hk hg => ?_, fun k hk => ?_, fun k hk => ⟨(hG k hk).1, by have := (hG k hk).2; omega⟩, ?_⟩
  · rcases h2 k hk with e | e
    · exact hd k e hg
    · have := (hG k hg).2; omega
  · rcases h2 k hk with e | e
    · exact hF k e
    · omega
  · exact ((Chg.of (F := fun _ => False) hW (by simp)).trans h3 fun k hk => .inr (hF k hk)).none
theorem Duo.call (K : Kept R) (d : Duo W w b s R) {f : FuncId} {args : Array Value} {v : Value} (C : ∀ F, Me w b s F → Calls Try.prog f args w fun e w' => e = .returned v ∧ Left w w' b s' F) :
    Calls Try.prog f args w fun e w' => e = .returned v ∧ Duo W w' b s' R := by
  obtain ⟨F, G, hM, hR, hd, hF, hG, hW⟩ := d
  exact (C F hM).mono fun e w' ⟨he, L⟩ => ⟨he, Duo.left K hM hR hd hF hG hW L⟩
theorem Duo.grown (K : Kept R) (d : Duo W w b s R) (g : w.grownBy w' none) : Duo W w' b s R := by
  obtain ⟨F, G, hM, hR, hd, hF, hG, hW⟩ := d
  have := g.size
  exact ⟨F, G, hM.grown g, K w w' G (fun _ => False) hR (Chg.of g (by simp)) (fun _ _ => id), hd, hF, fun k hk => ⟨(hG k hk).1, by have := (hG k hk).2; omega⟩, grown_tr hW g⟩
theorem Duo.base (d : Duo W w b s R) : W.grownBy w none := by obtain ⟨F, G, hM, hR, hd, hF, hG, hW⟩ := d; exact hW
theorem Duo.ok (d : Duo W w b s R) : Ok s := by obtain ⟨F, G, hM, hR, hd, hF, hG, hW⟩ := d; exact hM.ok
theorem Duo.i64 (d : Duo W w b s R) : ∀ p ∈ s.l, I64 p.fm ∧ I64 p.tt := by obtain ⟨F, G, hM, hR, hd, hF, hG, hW⟩ := d; exact hM.i64
theorem duo_new (hW : W.grownBy w none) : Calls Try.prog 8 #[] w fun e w' => ∃ b, e = .returned (.pointer (some ⟨b, 0, none⟩)) ∧ Duo W w' b ⟨[], 0, []⟩ Alone := by
  refine (new_ok w).mono ?_
  rintro e w' ⟨b, F, rfl, hM, hF, hg⟩
  have := hW.size
  exact ⟨b, rfl, F, fun _ => False, hM, fun _ => id, fun _ _ => id, fun k hk => by have := hF k hk; omega, fun _ h => h.elim, grown_tr hW hg⟩
/-- Another mesh, made beside one. -/
theorem duo_beside (d : Duo W w b s Alone) : Calls Try.prog 8 #[] w fun e w' => ∃ b2, e = .returned (.pointer (some ⟨b2, 0, none⟩)) ∧ Duo W w' b s (fun w G => Me w b2 ⟨[], 0, []⟩ G) := by
  obtain ⟨F, G, hM, hR, hd, hF, hG, hW⟩ := d
  refine (new_ok w).mono ?_
  rintro e w' ⟨b2, F2, rfl, hM2, hF2, hg⟩
  have := hW.size
  refine ⟨b2, rfl, F, F2, hM.grown hg, hM2, fun k hk h2 => ?_, hF, fun k hk => ⟨by have := hF2 k hk; omega, hM2.lt k hk⟩, grown_tr hW hg⟩
  have := hM.lt k hk
  have := hF2 k h2
  omega
theorem duo_send (K : Kept R) (d : Duo W w b s R) (hn : s.n ≤ 1000000) (fm tt : Int) (body : ByteArray) (hb : body.size ≤ 140737488351232) (hf : I64 fm) (ht : I64 tt) :
    Calls Try.prog 9 #[.pointer (some ⟨b, 0, none⟩), .int .i64 fm, .int .i64 tt, .string body] w fun e w' => e = .returned (.tuple #[.int .i64 (sendI s body), .int .i64 (sendE s body)]) ∧ Duo W w' b (sendS s fm tt body) R :=
  d.call K fun F h => send_any b s F fm tt body w h hn hb hf ht
theorem duo_double (K : Kept R) (d : Duo W w b s R) (hn : s.n ≤ 1000000) (id : Int) :
    Calls Try.prog 17 #[.pointer (some ⟨b, 0, none⟩), .int .i64 id] w fun e w' => e = .returned (.tuple #[.int .i64 (dblI s id), .int .i64 (dblE s id)]) ∧ Duo W w' b (dblS s id) R :=
  d.call K fun F h => double_any b s F id w h hn
theorem duo_drop (K : Kept R) (d : Duo W w b s R) (id : Int) :
    Calls Try.prog 15 #[.pointer (some ⟨b, 0, none⟩), .int .i64 id] w fun e w' => e = .returned (.bool (there s.l id)) ∧ Duo W w' b (dropS s id) R :=
  d.call K fun F h => drop_any b s F id w h
theorem duo_deliver (K : Kept R) (d : Duo W w b s R) (id : Int) :
    Calls Try.prog 11 #[.pointer (some ⟨b, 0, none⟩), .int .i64 id] w fun e w' => e = .returned (.tuple #[pv (dlvP s id), .bool (dlv s id)]) ∧ Duo W w' b (dlvS s id) R :=
  d.call K fun F h => deliver_any b s F id w h
theorem duo_next (K : Kept R) (d : Duo W w b s R) :
    Calls Try.prog 13 #[.pointer (some ⟨b, 0, none⟩)] w fun e w' => e = .returned (.tuple #[pv (nxtP s), .bool (nxtB s)]) ∧ Duo W w' b (nxtS s) R :=
  d.call K fun F h => next_any b s F w h
theorem duo_cut (K : Kept R) (d : Duo W w b s R) (x y : Int) (hx : I64 x) (hy : I64 y) (hl : s.cs.length ≤ 1000000) :
    Calls Try.prog 19 #[.pointer (some ⟨b, 0, none⟩), .int .i64 x, .int .i64 y] w fun e w' => e = .returned (.tuple #[]) ∧ Duo W w' b ⟨s.l, s.n, cutL s.cs x y⟩ R :=
  d.call K fun F h => (cut_any b s F x y w h hx hy hl).mono fun e w' ⟨he, h1, h2⟩ => ⟨he, F, h1, fun k hk => .inl hk, h2⟩
theorem duo_join (K : Kept R) (d : Duo W w b s R) (x y : Int) (hx : I64 x) (hy : I64 y) :
    Calls Try.prog 21 #[.pointer (some ⟨b, 0, none⟩), .int .i64 x, .int .i64 y] w fun e w' => e = .returned (.tuple #[]) ∧ Duo W w' b ⟨s.l, s.n, joinL s.cs x y⟩ R :=
  d.call K fun F h => (join_any b s F x y w h hx hy).mono fun e w' ⟨he, h1, h2⟩ => ⟨he, F, h1, fun k hk => .inl hk, h2⟩
theorem duo_flight (K : Kept R) (d : Duo W w b s R) :
    Calls Try.prog 24 #[.pointer (some ⟨b, 0, none⟩)] w fun e w' => ∃ ad c, e = .returned (.slice ad s.l.length c) ∧ eP.Own w' w.heap.size (.slice ad s.l.length c) s.l ∧ w.grownBy w' none ∧ Duo W w' b s R := by
  have d0 := d
  obtain ⟨F, G, hM, hR, hd, hF, hG, hW⟩ := d
  exact (flight_any b s F w hM).mono fun e w' ⟨ad, c, he, hO, hg⟩ => ⟨ad, c, he, hO, hg, d0.grown K hg⟩
end
end Go.Proofs.Ytffbaomaiohdiaa
