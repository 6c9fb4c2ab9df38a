/- The statements' first look. -/
import Derived.Test.YthpeeldpalmakaaQDoes
import Derived.Lib.SmallJoins
namespace Go.Proofs.Ythpeeldpalmakaa
open Go.RowKit Dsk
set_option linter.unusedVariables false

/-- 'string(b)'. -/
theorem run_string {w : World} {v : Value} {l : List UInt8} (h : eB.Rx w v l) : (convert 31 9 v).run Try.prog w = .ok (.string ⟨l.toArray⟩) w := by
  rcases h with ⟨rfl, rfl⟩ | ⟨a, c, rfl, _, hc⟩
  · rw [run_convert_bytes_string w 31 9 5 none 0 0 Try.underlying31 Try.underlying5 Try.underlying9]
    rfl
  · refine run_convert_bytes_back (P := Try.prog) w 31 9 5 a c l Try.underlying31 Try.underlying5 Try.underlying9 fun j hj => ?_
    refine hc j _ ?_
    have h1 := Elm.cells_at eB (List.getElem?_eq_getElem hj) 0 (by decide)
    have e : eB.size = 1 := rfl
    rw [e, Nat.mul_one, Nat.add_zero] at h1
    rw [h1]
    rfl
/-- A disk that was made since W: nothing of W has turned. -/
def Lv (W w : World) (b : Nat) (s : St) (F : Nat → Prop) : Prop := Dk w b s F ∧ (∀ k, F k → W.heap.size ≤ k) ∧ Below W.heap.size W w
theorem Lv.out {W w w' : World} {b : Nat} {s s' : St} {F : Nat → Prop} (h : Lv W w b s F) (o : Out b s' F w w') : ∃ F', Lv W w' b s' F' ∧ (∀ k, F' k → F k ∨ w.heap.size ≤ k) ∧ Chg F w w' := by
  obtain ⟨F', h1, h2, h3⟩ := o
  have hz := h.2.2.size
  exact ⟨F', ⟨h1, fun k hk => by rcases h2 k hk with e | e; exact h.2.1 k e; omega, Chg.low h.2.2 h3 h.2.1⟩, h2, h3⟩
theorem Lv.grown {W w w' : World} {b : Nat} {s : St} {F : Nat → Prop} (h : Lv W w b s F) (g : w.grownBy w' none) : Lv W w' b s F := ⟨h.1.grown g, h.2.1, grown_low h.2.2 g⟩
theorem rx_new (w : World) (l : List UInt8) (fr : Nat × Nat) (C : Array Value) (hC : C = (eB.cells l).toArray) (n q : Nat) (hn : n = l.length) (hq : q = w.heap.size) : eB.Rx (w.alloc (.cells C 5 fr)) (.slice (some ⟨q, 0, none⟩) n n) l := by
  subst hn hq hC
  refine .inr ⟨⟨w.heap.size, 0, none⟩, l.length, rfl, .inr rfl, fun t x hx => ?_⟩
  rw [Addr.add_lit, Nat.zero_add, World.cell?_alloc_mark]
  simpa using hx
/-- Append of new bytes. -/
theorem app_const {W w : World} {b : Nat} {s : St} {F : Nat → Prop} (h : Lv W w b s F) (m1 : s.m ≤ 1000000000) (nm : ByteArray) (hn : nm.size ≤ 140737488351232) (l : List UInt8) (hl : l.length ≤ 1000) (fr : Nat × Nat) (C : Array Value) (hC : C = (eB.cells l).toArray) (n : Nat) (hn' : n = l.length) (E : Int) (hE : appE s.l nm.data.toList l.length = E) :
    Calls Try.prog 23 #[.pointer (some ⟨b, 0, none⟩), .string nm, .slice (some ⟨w.heap.size, 0, none⟩) n n] (w.alloc (.cells C 5 fr)) fun e w' => e = .returned (.int .i64 E) ∧ ∃ F', Lv W w' b (appS s nm.data.toList l) F' := by
  have g := World.grownBy_alloc w (.cells C 5 fr) none
  refine (append_any b s F nm hn _ l _ (h.1.grown g) m1 (rx_new w l fr C hC n _ hn' rfl) (by omega) (fun _ k hk c => ?_)).mono ?_
  · have := h.1.lt k c
    injection hk with hk
    have : w.heap.size = k := hk
    omega
  · rintro e w' ⟨rfl, o⟩
    obtain ⟨F', h1, _⟩ := (h.grown g).out o
    exact ⟨by rw [hE], F', h1⟩
def nA : ByteArray := ⟨#[97]⟩
def w1 : St := appS newS [97] [111, 110, 101]
def w2 : St := syncS w1 [97]
def w3 : St := appS w2 [97] [116, 119, 111]
def w4 : St := appS w3 [98] [116, 104, 114, 101, 101]
def w5 : St := ⟨w4.l.map fun p => (p.1, p.2.crash 2 2), w4.m⟩
theorem w5_is : crashS w4 1 2 = w5 := by
  have h1 : nums w4.l = [1, 2] := by decide +kernel
  have h2 : sorted [1, 2] = [1, 2] := List.mergeSort_of_pairwise (by simp)
  have h3 : behind w4 1 = 2 := by unfold behind; rw [h1, h2]; rfl
  unfold crashS w5
  rw [show (1 : Int).toNat = 1 from rfl, h3]
set_option maxRecDepth 100000 in
set_option maxHeartbeats 6400000 in
theorem awake_any (w : World) : Calls Try.prog 8 #[] w fun e w' => e = .returned (.bool true) ∧ w.grownBy w' none := by
  have CV : ∀ (w : World) (C : Array Value) (n c : Nat), (convert 31 31 (.slice (some ⟨w.heap.size, 0, none⟩) n c)).run Try.prog (w.alloc (.cells C 5)) = .ok (.slice (some ⟨w.heap.size, 0, none⟩) n c) (w.alloc (.cells C 5 (C.size, C.size + 1))) := fun w C n c => Go.Joins.run_convert_bytes_const_at (P := Try.prog) w 31 5 C n c _ rfl Try.underlying31 Try.underlying5
  have NW := new_ok w
  have A1 : ∀ {v b F}, Lv w v b newS F → Calls Try.prog 23 #[.pointer (some ⟨b, 0, none⟩), .string ⟨#[97]⟩, .slice (some ⟨v.heap.size, 0, none⟩) 3 3] (v.alloc (.cells #[.int .u8 111, .int .u8 110, .int .u8 101] 5 (3, 4))) fun e w' => e = .returned (.int .i64 0) ∧ ∃ F', Lv w w' b w1 F' := fun h => app_const h (by decide) ⟨#[97]⟩ (by decide) [111, 110, 101] (by decide) (3, 4) _ rfl 3 rfl 0 (by decide)
  have S1 : ∀ {v b F}, Lv w v b w1 F → Calls Try.prog 22 #[.pointer (some ⟨b, 0, none⟩), .string ⟨#[97]⟩] v fun e w' => e = .returned (.int .i64 0) ∧ ∃ F', Lv w w' b w2 F' := fun {v b F} h => (sync_any b w1 F ⟨#[97]⟩ (by decide) v h.1).mono fun e w' ⟨he, o⟩ => ⟨he, by obtain ⟨F', a, _⟩ := h.out o; exact ⟨F', a⟩⟩
  have A2 : ∀ {v b F}, Lv w v b w2 F → Calls Try.prog 23 #[.pointer (some ⟨b, 0, none⟩), .string ⟨#[97]⟩, .slice (some ⟨v.heap.size, 0, none⟩) 3 3] (v.alloc (.cells #[.int .u8 116, .int .u8 119, .int .u8 111] 5 (3, 4))) fun e w' => e = .returned (.int .i64 0) ∧ ∃ F', Lv w w' b w3 F' := fun h => app_const h (by decide) ⟨#[97]⟩ (by decide) [116, 119, 111] (by decide) (3, 4) _ rfl 3 rfl 0 (by decide)
  have A3 : ∀ {v b F}, Lv w v b w3 F → Calls Try.prog 23 #[.pointer (some ⟨b, 0, none⟩), .string ⟨#[98]⟩, .slice (some ⟨v.heap.size, 0, none⟩) 5 5] (v.alloc (.cells #[.int .u8 116, .int .u8 104, .int .u8 114, .int .u8 101, .int .u8 101] 5 (5, 6))) fun e w' => e = .returned (.int .i64 0) ∧ ∃ F', Lv w w' b w4 F' := fun h => app_const h (by decide) ⟨#[98]⟩ (by decide) [116, 104, 114, 101, 101] (by decide) (5, 6) _ rfl 5 rfl 0 (by decide)
  have W1 : ∀ {v b F}, Lv w v b w4 F → Calls Try.prog 17 #[.pointer (some ⟨b, 0, none⟩)] v fun e w' => e = .returned (.int .i64 2) ∧ ∃ F', Lv w w' b w4 F' := fun {v b F} h => (waiting_any b w4 F v h.1 (by decide)).mono fun e w' ⟨he, g⟩ => ⟨he, F, h.grown g⟩
  have C1 : ∀ {v b F}, Lv w v b w4 F → Calls Try.prog 21 #[.pointer (some ⟨b, 0, none⟩), .int .i64 1, .int .i64 2] v fun e w' => e = .returned (.tuple #[]) ∧ ∃ F', Lv w w' b w5 F' := fun {v b F} h => (crash_any b w4 F 1 2 (by decide) v h.1 (by decide)).mono fun e w' ⟨he, o⟩ => ⟨he, by rw [w5_is] at o; obtain ⟨F', a, _⟩ := h.out o; exact ⟨F', a⟩⟩
  have R1 : ∀ {v b F}, Lv w v b w5 F → Calls Try.prog 15 #[.pointer (some ⟨b, 0, none⟩), .string ⟨#[97]⟩] v fun e w' => ∃ ad c, e = .returned (.tuple #[.slice ad 6 c, .int .i64 0]) ∧ eB.Rx w' (.slice ad 6 c) [111, 110, 101, 116, 119, 111] ∧ v.grownBy w' none := fun {v b F} h => (read_any b w5 F ⟨#[97]⟩ (by decide) v h.1).mono fun e w' ⟨ad, c, he, o, g⟩ => by
    have e1 : rdB w5.l (⟨#[97]⟩ : ByteArray).data.toList = [111, 110, 101, 116, 119, 111] := by decide +kernel
    have e2 : hasE w5.l (⟨#[97]⟩ : ByteArray).data.toList = 0 := by decide +kernel
    rw [e1] at he o
    rw [e2] at he
    exact ⟨ad, c, he, o.rx, g⟩
  have R2 : ∀ {v b F}, Lv w v b w5 F → Calls Try.prog 15 #[.pointer (some ⟨b, 0, none⟩), .string ⟨#[98]⟩] v fun e w' => ∃ ad c er, e = .returned (.tuple #[.slice ad 2 c, .int .i64 er]) ∧ eB.Rx w' (.slice ad 2 c) [116, 104] ∧ v.grownBy w' none := fun {v b F} h => (read_any b w5 F ⟨#[98]⟩ (by decide) v h.1).mono fun e w' ⟨ad, c, he, o, g⟩ => by
    have e1 : rdB w5.l (⟨#[98]⟩ : ByteArray).data.toList = [116, 104] := by decide +kernel
    rw [e1] at he o
    exact ⟨ad, c, _, he, o.rx, g⟩
  have W2 : ∀ {v b F}, Lv w v b w5 F → Calls Try.prog 17 #[.pointer (some ⟨b, 0, none⟩)] v fun e w' => e = .returned (.int .i64 0) ∧ v.grownBy w' none := fun {v b F} h => (waiting_any b w5 F v h.1 (by decide)).mono fun e w' ⟨he, g⟩ => ⟨by rw [he, show wait w5.l = 0 by decide +kernel]; rfl, g⟩
  have A4 : ∀ {v b F}, Lv w v b w5 F → Calls Try.prog 23 #[.pointer (some ⟨b, 0, none⟩), .string ⟨#[65]⟩, .slice none 0 0] v fun e w' => e = .returned (.int .i64 1) ∧ w' = v := fun {v b F} h => app_bad b ⟨#[65]⟩ (by decide) (.slice none 0 0) (by decide) v
  have S2 : ∀ {v b F}, Lv w v b w5 F → Calls Try.prog 22 #[.pointer (some ⟨b, 0, none⟩), .string ⟨#[99]⟩] v fun e w' => e = .returned (.int .i64 80) ∧ ∃ F', Lv w w' b (syncS w5 [99]) F' := fun {v b F} h => (sync_any b w5 F ⟨#[99]⟩ (by decide) v h.1).mono fun e w' ⟨he, o⟩ => ⟨by rw [he, show hasE w5.l (⟨#[99]⟩ : ByteArray).data.toList = 80 by decide +kernel], by obtain ⟨F', a, _⟩ := h.out o; exact ⟨F', a⟩⟩
  go_enter Try.func8, Try.ntmps8
  go_wp2_with (first
    | (go_at_call 9; (with_reducible refine NW.mono ?_); rintro e v1 ⟨b, F1, rfl, d1, f1, g1⟩; have L1 : Lv w v1 b newS F1 := ⟨d1, f1, grown_below g1⟩; clear NW d1 f1 g1)
    | (go_at_call 23; (with_reducible refine (A1 L1).mono ?_); rintro e v2 ⟨rfl, F2, L2⟩; clear A1 L1)
    | (go_at_call 22; (with_reducible refine (S1 L2).mono ?_); rintro e v3 ⟨rfl, F3, L3⟩; clear S1 L2)
    | (go_at_call 23; (with_reducible refine (A2 L3).mono ?_); rintro e v4 ⟨rfl, F4, L4⟩; clear A2 L3)
    | (go_at_call 23; (with_reducible refine (A3 L4).mono ?_); rintro e v5 ⟨rfl, F5, L5⟩; clear A3 L4)
    | (go_at_call 17; (with_reducible refine (W1 L5).mono ?_); rintro e v6 ⟨rfl, F6, L6⟩; clear W1 L5)
    | (go_at_call 21; (with_reducible refine (C1 L6).mono ?_); rintro e v7 ⟨rfl, F7, L7⟩; clear C1 L6)
    | (go_at_call 15; (with_reducible refine (R1 L7).mono ?_); rintro e v8 ⟨a8, c8, rfl, x8, g8⟩; have L8 := L7.grown g8; clear R1 L7)
    | (go_at_call 15; (with_reducible refine (R2 L8).mono ?_); rintro e v9 ⟨a9, c9, er, rfl, x9, g9⟩; have L9 := L8.grown g9; have y8 := run_string (x8.grown g9); have y9 := run_string x9; clear R2 L8 x8 x9)
    | (go_at_call 17; (with_reducible refine (W2 L9).mono ?_); rintro e v10 ⟨rfl, g10⟩; have L10 := L9.grown g10; clear W2 L9)
    | (go_at_call 23; (with_reducible refine (A4 L10).mono ?_); rintro e v11 ⟨rfl, e11⟩; have e11' := e11.symm; clear e11; subst e11'; clear A4)
    | (go_at_call 22; (with_reducible refine (S2 L10).mono ?_); rintro e v12 ⟨rfl, F12, L12⟩))
  go_ret
  exact ⟨rfl, L12.2.2.os, L12.2.2.tape, L12.2.2.output, L12.2.2.size, fun k hk _ => L12.2.2.block k hk⟩
end Go.Proofs.Ythpeeldpalmakaa
