/- What 'isAny', 'Print' answer. -/
import Derived.Test.YthjfecniipifhaaDoorKCheck
import Derived.Test.YthjfecniipifhaaDoorKPrint
namespace Go.Proofs.YthjfecniipifhaaDoor.Cro
/-- Is a field printed as a star? -/
def C.any (c : C) (i : Nat) : Bool := if i = 2 then c.ad else if i = 4 then c.aw else (((c.set i : Nat) : Int) == (((sp i).full : Nat) : Int))
/-- A field's text. -/
def C.word (c : C) (i : Nat) : List UInt8 := if c.any i = true then [42] else prn (sp i) (c.set i)
/-- An expression's text. -/
def C.text (c : C) : List UInt8 := Lib.join [c.word 0, c.word 1, c.word 2, c.word 3, c.word 4] [32]
def prt (c : C) : List UInt8 × Int := if c.right then (c.text, 0) else ([], 1)
end Go.Proofs.YthjfecniipifhaaDoor.Cro
namespace Go.Proofs.YthjfecniipifhaaDoor
open Go.RowKit
set_option linter.unusedVariables false

set_option maxRecDepth 100000 in
theorem isAny_two (c : Cro.C) (w : World) :
    Calls Tryd.prog 24 #[crv c, .int .i64 2] w fun e w' => e = .returned (.bool c.ad) ∧ w.grownBy w' none := by
  obtain ⟨m0, m1, m2, m3, m4, b5, b6⟩ := c
  go_enter Tryd.func24, Tryd.ntmps24
  go_wp2_with (go_at_call 23; fail)
  go_ret
  exact ⟨rfl, World.grownBy_alloc w _ none⟩
set_option maxRecDepth 100000 in
theorem isAny_four (c : Cro.C) (w : World) :
    Calls Tryd.prog 24 #[crv c, .int .i64 4] w fun e w' => e = .returned (.bool c.aw) ∧ w.grownBy w' none := by
  obtain ⟨m0, m1, m2, m3, m4, b5, b6⟩ := c
  go_enter Tryd.func24, Tryd.ntmps24
  go_wp2_with (go_at_call 23; fail)
  go_ret
  exact ⟨rfl, World.grownBy_alloc w _ none⟩
set_option maxRecDepth 100000 in
set_option maxHeartbeats 800000 in
theorem isAny_other (c : Cro.C) (i : Nat) (hi : i < 5) (h2 : i ≠ 2) (h4 : i ≠ 4) (w : World) (hG : Gl w) :
    Calls Tryd.prog 24 #[crv c, .int .i64 i] w fun e w' => e = .returned (.bool (((c.set i : Nat) : Int) == (((Cro.sp i).full : Nat) : Int))) ∧ w.grownBy w' none := by
  have z2 : ((i : Int) == 2) = false := by simp; omega
  have z4 : ((i : Int) == 4) = false := by simp; omega
  have SO := setsOf_any c
  have FS := full_sp i
  have hix : ∀ w', (Instr.index 45 (fiv c) (.int .i64 (i : Int))).run Tryd.prog w' = .ok (.int .u64 (c.set i : Nat)) w' := fun w' => index_five c i hi w'
  have hne : Nonempty (KW w w.heap.size c) := ⟨_, (CrAt.new w c 25), hG.kept (World.grownBy_alloc w _ none), World.grownBy_alloc w _ none⟩
  have x0 : ∀ x : KW w w.heap.size c, x.now.cell? ⟨w.heap.size, 0, none⟩ = some (.int .u64 c.mi) := fun x => x.good.c0
  have x1 : ∀ x : KW w w.heap.size c, x.now.cell? ⟨w.heap.size, 1, none⟩ = some (.int .u64 c.ho) := fun x => x.good.c1
  have x2 : ∀ x : KW w w.heap.size c, x.now.cell? ⟨w.heap.size, 2, none⟩ = some (.int .u64 c.da) := fun x => x.good.c2
  have x3 : ∀ x : KW w w.heap.size c, x.now.cell? ⟨w.heap.size, 3, none⟩ = some (.int .u64 c.mo) := fun x => x.good.c3
  have x4 : ∀ x : KW w w.heap.size c, x.now.cell? ⟨w.heap.size, 4, none⟩ = some (.int .u64 c.we) := fun x => x.good.c4
  have x5 : ∀ x : KW w w.heap.size c, x.now.cell? ⟨w.heap.size, 5, none⟩ = some (.bool c.ad) := fun x => x.good.c5
  have x6 : ∀ x : KW w w.heap.size c, x.now.cell? ⟨w.heap.size, 6, none⟩ = some (.bool c.aw) := fun x => x.good.c6
  have a0 : ∀ x : KW w w.heap.size c, x.now.cell? ⟨0, i * 3, none⟩ = some (.int .i64 (Cro.sp i).lo) := fun x => (x.gl.s i hi).1
  have a1 : ∀ x : KW w w.heap.size c, x.now.cell? ⟨0, i * 3 + 1, none⟩ = some (.int .i64 (Cro.sp i).hi) := fun x => (x.gl.s i hi).2.1
  have a2 : ∀ x : KW w w.heap.size c, x.now.cell? ⟨0, i * 3 + 2, none⟩ = some (.int .i64 (Cro.sp i).last) := fun x => (x.gl.s i hi).2.2
  clear h2 h4
  generalize c.set i = X at hix ⊢
  generalize (Cro.sp i).full = U at FS ⊢
  generalize Cro.sp i = f at a0 a1 a2 FS
  have GK : Hid (Gl w) := hG
  go_enter Tryd.func24, Tryd.ntmps24
  go_wp2
  refine wp_region_quiet_at (C := fun w' => ∃ x : KW w w.heap.size c, w' = x.now) (by kernel_rfl) (by kernel_rfl) ⟨⟨_, (CrAt.new w c _).kept (grown_drewN (grown_refl _ _) 1), GK.out.kept (grown_drewN (World.grownBy_alloc w _ none) 1), grown_drewN (World.grownBy_alloc w _ none) 1⟩, rfl⟩ ?_
  repeat (go_big_quiet_step (first | (go_at_call 29; refine KW.call (FS _)) | (go_at_call 23; refine KW.call (SO _))))
  refine wpQuiet_nil ?_
  rintro _ ⟨x, rfl⟩
  go_wp2
  go_ret
  exact ⟨rfl, x.grown⟩
theorem isAny_any (c : Cro.C) (i : Nat) (hi : i < 5) (w : World) (hG : Gl w) :
    Calls Tryd.prog 24 #[crv c, .int .i64 i] w fun e w' => e = .returned (.bool (c.any i)) ∧ w.grownBy w' none := by
  unfold Cro.C.any
  by_cases h2 : i = 2
  · subst h2
    rw [if_pos rfl]
    exact isAny_two c w
  · by_cases h4 : i = 4
    · subst h4
      rw [if_neg (by decide), if_pos rfl]
      exact isAny_four c w
    · rw [if_neg h2, if_neg h4]
      exact isAny_other c i hi h2 h4 w hG

theorem word_len (c : Cro.C) (i : Nat) : (c.word i).length ≤ 384 := by
  unfold Cro.C.word
  split
  · simp
  · exact Cro.prn_len _ _
theorem text_len (c : Cro.C) : c.text.length ≤ 100000 := by
  have h0 := word_len c 0
  have h1 := word_len c 1
  have h2 := word_len c 2
  have h3 := word_len c 3
  have h4 := word_len c 4
  unfold Cro.C.text
  rw [Lib.join_cons]
  simp [Lib.joinTail]
  omega
/-- The five words, as far as they are told. -/
def ArrS (w : World) (b k : Nat) (X : Nat → List UInt8) : Prop := ∀ i, i < 5 → w.cell? ⟨b, i, none⟩ = some (str (if i < k then X i else [])) ∧ w.frozen? ⟨b, i, none⟩ = false
theorem ArrS.new (w : World) (X : Nat → List UInt8) (t : TypeId) : ArrS (w.alloc (.cells #[.string ⟨#[]⟩, .string ⟨#[]⟩, .string ⟨#[]⟩, .string ⟨#[]⟩, .string ⟨#[]⟩] t)) w.heap.size 0 X := fun i hi => by
  refine ⟨?_, by simp⟩
  rw [World.cell?_alloc_new, if_neg (by omega)]
  match i, hi with
  | 0, _ => rfl
  | 1, _ => rfl
  | 2, _ => rfl
  | 3, _ => rfl
  | 4, _ => rfl
theorem ArrS.kept {w w' : World} {b k : Nat} {X : Nat → List UInt8} (h : ArrS w b k X) (g : w.grownBy w' none) : ArrS w' b k X := fun i hi => by
  obtain ⟨h1, h2⟩ := h i hi
  refine ⟨g.cell h1 (by simp), ?_⟩
  have hlt := World.block_lt_of_cell? w _ h1
  rw [World.frozen?_of_block (w := w) (g.block b hlt (by simp))]
  exact h2
theorem ArrS.set {w : World} {b k : Nat} {X : Nat → List UInt8} (h : ArrS w b k X) (hk : k < 5) : ArrS (w.setCell ⟨b, k, none⟩ (str (X k))) b (k + 1) X := fun i hi => by
  obtain ⟨h1, h2⟩ := h i hi
  refine ⟨?_, by rw [World.frozen?_setCell]; exact h2⟩
  by_cases e : i = k
  · subst e
    rw [World.cell?_setCell_same _ _ _ h1, if_pos (by omega)]
  · rw [World.cell?_setCell_other _ _ _ _ (fun e' => e (by injection e' with _ e2 _; exact e2.symm)), h1]
    by_cases c : i < k
    · rw [if_pos c, if_pos (by omega)]
    · rw [if_neg c, if_neg (by omega)]
/-- What 'Print' hands back. -/
def prtV (x : List UInt8 × Int) : Value := .tuple #[str x.1, .int .i64 x.2]
theorem right_lt {c : Cro.C} (h : c.right) (i : Nat) (hi : i < 5) : c.set i < 2 ^ 60 := by
  have h' := (right_at h i hi).2
  have hf : (Cro.sp i).full < 2 ^ 60 := by
    unfold Cro.sp
    split <;> decide
  have : c.set i ≤ c.set i ||| (Cro.sp i).full := Nat.left_le_or
  rw [h'] at this
  omega

set_option maxRecDepth 100000 in
set_option maxHeartbeats 800000 in
theorem Print_no (c : Cro.C) (hc : c.ok) (hr : ¬ c.right) (w : World) (hG : Gl w) :
    Calls Tryd.prog 12 #[crv c] w fun e w' => e = .returned (prtV (Cro.prt c)) ∧ w.grownBy w' none := by
  have CK := Check_any c hc
  rw [decide_eq_false hr] at CK
  unfold Cro.prt
  rw [if_neg hr]
  have G1 : ∀ o, Gl (w.alloc o) := fun o => hG.kept (World.grownBy_alloc w o none)
  clear hr
  go_enter Tryd.func12, Tryd.ntmps12
  go_wp2_with (go_at_call 14; go_must (refine (CK _ (G1 _)).mono ?_); rintro e w1 ⟨rfl, hg⟩)
  go_ret2
  exact ⟨rfl, grown_more (World.grownBy_alloc w _ none) hg (by simp)⟩

set_option maxRecDepth 100000 in
set_option maxHeartbeats 1600000 in
theorem Print_yes (c : Cro.C) (hc : c.ok) (hr : c.right) (hlen : c.text.length ≤ 100000) (w : World) (hG : Gl w) :
    Calls Tryd.prog 12 #[crv c] w fun e w' => e = .returned (.tuple #[str c.text, .int .i64 0]) ∧ w.grownBy w' none := by
  have HLEN : Hid (c.text.length ≤ 100000) := hlen
  have HTX : Hid (c.text = Lib.join [c.word 0, c.word 1, c.word 2, c.word 3, c.word 4] [32]) := rfl
  generalize c.text = T at HLEN HTX ⊢
  clear hlen
  have CK := Check_any c hc
  rw [decide_eq_true hr] at CK
  have SO := setsOf_any c
  have IA := isAny_any c
  have PR := fun i (hi : i < 5) => print_any (Cro.sp i) (c.set i) (right_lt hr i hi) (sp_bd i).1 (sp_bd i).2.1
  have G1 : ∀ o, Gl (w.alloc o) := fun o => hG.kept (World.grownBy_alloc w o none)
  clear hr
  go_enter Tryd.func12, Tryd.ntmps12
  go_wp2_with (first
    | (go_at_call 14; go_must (refine (CK _ (G1 _)).mono ?_); rintro e w1 ⟨rfl, hg⟩; have C1 := (CrAt.new w c _).kept hg; have d0 := fun o => (C1.kept (World.grownBy_alloc w1 o none)).c0; have d1 := fun o => (C1.kept (World.grownBy_alloc w1 o none)).c1; have d2 := fun o => (C1.kept (World.grownBy_alloc w1 o none)).c2; have d3 := fun o => (C1.kept (World.grownBy_alloc w1 o none)).c3; have d4 := fun o => (C1.kept (World.grownBy_alloc w1 o none)).c4; have d5 := fun o => (C1.kept (World.grownBy_alloc w1 o none)).c5; have d6 := fun o => (C1.kept (World.grownBy_alloc w1 o none)).c6)
    | (go_at_call 23; go_must (refine (SO _).mono ?_); rintro e w2 ⟨rfl, hg2⟩))
  have GW : w.grownBy w1 none := grown_more (World.grownBy_alloc w _ none) hg (by simp)
  have KC : Hid (∀ wr, w1.grownBy wr none → CrAt wr w.heap.size c) := fun wr h => C1.kept h
  have A0 : ArrS w2 w1.heap.size 0 c.word := (ArrS.new w1 c.word _).kept hg2
  have G2 : w1.grownBy w2 none := grown_more (World.grownBy_alloc w1 _ none) hg2 (by simp)
  clear d0 d1 d2 d3 d4 d5 d6 C1 hg hg2 SO CK G1
  go_loopw [12] (fun i wr => ∃ k : Nat, k ≤ 5 ∧ i = .int .i64 k ∧ ArrS wr w1.heap.size k c.word ∧ w1.grownBy wr none) (fun i _ => (5 - (intOf i).toNat))
  case atStart => exact ⟨0, by omega, rfl, A0, G2⟩
  case round =>
    clear A0 G2
    obtain ⟨k, hk, rfl, hR, hg⟩ := hrel
    obtain ⟨d0, d1, d2, d3, d4, d5, d6⟩ := KC.out _ hg
    have hGr := hG.kept (grown_more GW hg (by simp))
    by_cases hlt : k < 5
    · have IAk := IA k hlt
      have hix : ∀ w', (Instr.index 45 (fiv c) (.int .i64 (k : Int))).run Tryd.prog w' = .ok (.int .u64 (c.set k : Nat)) w' := fun w' => index_five c k hlt w'
      have PRk := PR k hlt
      have KS : Hid (∀ w2, wr.grownBy w2 none → ArrS (w2.setCell ⟨w1.heap.size, k, none⟩ (str (c.word k))) w1.heap.size (k + 1) c.word) := fun w2 h => (hR.kept h).set hlt
      have KQ : Hid (∀ w2, wr.grownBy w2 none → w2.cell? ⟨w1.heap.size, k, none⟩ = some (str []) ∧ w2.frozen? ⟨w1.heap.size, k, none⟩ = false) := fun w2 h => by
        have := (hR.kept h) k hlt
        rw [if_neg (by omega)] at this
        exact this
      have KGl : Hid (∀ w2, wr.grownBy w2 none → Gl w2) := fun w2 h => hGr.kept h
      cases hb : c.any k with
      | true =>
        rw [hb] at IAk
        have HW : Hid (c.word k = [42]) := by show _ = _; unfold Cro.C.word; rw [if_pos hb]
        clear hb hR PR PRk IA
        go_wp2_with (go_at_call 24; go_must (refine (IAk _ hGr).mono ?_); rintro e w3 ⟨rfl, hg3⟩; obtain ⟨q1, q2⟩ := KQ.out _ hg3)
        go_roundw
        case rel => exact ⟨k + 1, by omega, by go_num, by have := KS.out _ hg3; rw [HW.out] at this; exact this, grown_set_new (grown_more hg hg3 (by simp)) _ (by simp) _⟩
        case measure => simp [intOf]; omega
      | false =>
        rw [hb] at IAk
        have HW : Hid (c.word k = Cro.prn (Cro.sp k) (c.set k)) := by show _ = _; unfold Cro.C.word; rw [if_neg (by simp [hb])]
        have KSg : Hid (∀ w2, wr.grownBy w2 none → w2.cell? ⟨0, k * 3, none⟩ = some (.int .i64 (Cro.sp k).lo) ∧ w2.cell? ⟨0, k * 3 + 1, none⟩ = some (.int .i64 (Cro.sp k).hi) ∧ w2.cell? ⟨0, k * 3 + 2, none⟩ = some (.int .i64 (Cro.sp k).last)) := fun w2 h => (hGr.kept h).s k hlt
        clear hb hR PR IA
        generalize Cro.prn (Cro.sp k) (c.set k) = tx at PRk HW
        generalize c.set k = X at PRk hix
        generalize Cro.sp k = f at PRk KSg
        go_wp2_with (first
          | (go_at_call 24; go_must (refine (IAk _ hGr).mono ?_); rintro e w3 ⟨rfl, hg3⟩; obtain ⟨s0, s1, s2⟩ := KSg.out _ hg3)
          | (go_at_call 25; go_must (refine (PRk _).mono ?_); rintro e w4 ⟨rfl, hg4⟩; have hg5 := grown_more hg3 hg4 (by simp); obtain ⟨q1, q2⟩ := KQ.out _ hg5))
        go_roundw
        case rel => exact ⟨k + 1, by omega, by go_num, by have := KS.out _ hg5; rw [HW.out] at this; exact this, grown_set_new (grown_more hg hg5 (by simp)) _ (by simp) _⟩
        case measure => simp [intOf]; omega
    · obtain rfl : k = 5 := by omega
      have hbk : w1.heap.size < wr.heap.size := World.block_lt_of_cell? wr _ (hR 0 (by omega)).1
      have J := Tryd.strings_Join w1.heap.size 0 5 [⟨(c.word 0).toArray⟩, ⟨(c.word 1).toArray⟩, ⟨(c.word 2).toArray⟩, ⟨(c.word 3).toArray⟩, ⟨(c.word 4).toArray⟩] ⟨#[32]⟩ wr (fun j x hx => by
        have hj : j < 5 := by obtain ⟨h', _⟩ := List.getElem?_eq_some_iff.mp hx; simpa using h'
        rw [Nat.zero_add, (hR j hj).1, if_pos hj]
        match j, hj, hx with
        | 0, _, hx => simp at hx; subst hx; rfl
        | 1, _, hx => simp at hx; subst hx; rfl
        | 2, _, hx => simp at hx; subst hx; rfl
        | 3, _, hx => simp at hx; subst hx; rfl
        | 4, _, hx => simp at hx; subst hx; rfl) hbk (by simp) (by simp) (by show (Lib.join [c.word 0, c.word 1, c.word 2, c.word 3, c.word 4] [32]).length ≤ _; rw [← HTX.out]; have := HLEN.out; omega)
      have J' : Calls Tryd.prog 26 #[.slice (some ⟨w1.heap.size, 0, none⟩) 5 5, .string ⟨#[32]⟩] wr fun e w' => e = .returned (str T) ∧ wr.grownBy w' none := by
        rw [HTX.out]
        refine J.mono ?_
        rintro e w' ⟨rfl, hb⟩
        exact ⟨rfl, below_grown hb⟩
      clear J hR PR IA HTX HLEN
      go_wp2_with (go_at_call 26; go_must (refine J'.mono ?_); rintro e w3 ⟨rfl, hg3⟩)
      go_ret2
      exact ⟨rfl, grown_more GW (grown_more hg hg3 (by simp)) (by simp)⟩

theorem Print_any (c : Cro.C) (hc : c.ok) (w : World) (hG : Gl w) :
    Calls Tryd.prog 12 #[crv c] w fun e w' => e = .returned (prtV (Cro.prt c)) ∧ w.grownBy w' none := by
  by_cases hr : c.right
  · have := Print_yes c hc hr (text_len c) w hG
    unfold Cro.prt
    rw [if_pos hr]
    exact this
  · exact Print_no c hc hr w hG
end Go.Proofs.YthjfecniipifhaaDoor
