/- What nothing has turned is read as before. What 'Unframe' answers. -/
import Derived.Test.YtapdhkgeolcogaaGreatDoorGh
import Derived.Deep.QuietTactic
import Derived.BigQuiet
namespace Go.Proofs.YtapdhkgeolcogaaGreatDoor.Cd
open Go.RowKit

theorem Fl.next {w w' : World} {v : Value} {fs : List Code.Fd} (h : Fl w v fs) (g : w.grownBy w' none) : Fl w' v fs := h.grown g (by cases v.ownBlock <;> simp)
theorem Rd.next {w w' : World} {v : Value} {l : List Int} (h : Rd w v l) (g : w.grownBy w' none) : Rd w' v l := h.grown g (by cases v.ownBlock <;> simp)
theorem grown_drewN {w w' : World} {r : Option Nat} (h : w.grownBy w' r) (n : Nat) : w.grownBy (w'.drewN n) r := ⟨h.os, h.tape, h.output, h.size, h.block⟩
end Go.Proofs.YtapdhkgeolcogaaGreatDoor.Cd
namespace Go.Proofs.YtapdhkgeolcogaaGreatDoor.Cd
open Go.RowKit

/-- Whoever owns a row owns it from any lower block on. -/
theorem owns_low {w : World} {base : Nat} {e : TypeId} {size : Nat} {v : Value} {n : Nat} {xs : List Value} (h : w.ownsRow base e size v n xs) {base' : Nat} (hb : base' ≤ base) : w.ownsRow base' e size v n xs := by
  refine ⟨h.1, ?_⟩
  rcases h.2 with h | ⟨g, cap, cur, e, hg, r⟩
  · exact .inl h
  · exact .inr ⟨g, cap, cur, e, by omega, r⟩

set_option maxRecDepth 100000 in
theorem equal_any (v v' : Value) (l l' : List Int) (w : World) (h : Rd w v l) (h' : Rd w v' l') :
    Calls Tryz.prog 100 #[v, v'] w fun e w' => e = .returned (.bool (decide (l = l'))) ∧ w' = w := by
  have s1 := run_string h
  have s2 := run_string h'
  have hse := str_eq h.bytes h'.bytes
  generalize Code.ofB l = X at *
  generalize Code.ofB l' = Y at *
  obtain ⟨b, hb⟩ : ∃ b, b = decide (l = l') := ⟨_, rfl⟩
  rw [← hb] at hse ⊢
  clear hb
  go_enter Tryz.func100, Tryz.ntmps100
  go_wp2
  all_goals go_ret
  all_goals exact ⟨by simp_all, rfl⟩

set_option maxRecDepth 100000 in
theorem clone_any (a : Option Addr) (c : Nat) (l : List Int) (w : World) (h : Rd w (.slice a l.length c) l) (hl : l.length ≤ 2000000) :
    Calls Tryz.prog 101 #[.slice a l.length c] w fun e w' => ∃ a' c', e = .returned (.slice a' l.length c') ∧ Own w' w.heap.size (.slice a' l.length c') l ∧ w.grownBy w' none := by
  cases a with
  | none =>
    have hl0 : l = [] ∧ c = 0 := by
      rcases h.val with ⟨h, e | ⟨_, _, e⟩⟩ | ⟨b, off, cap, e, _⟩
      · injection e with _ _ e3; exact ⟨h, e3⟩
      · injection e with e1; cases e1
      · injection e with e1; cases e1
    obtain ⟨rfl, rfl⟩ := hl0
    have he : ∀ w : World, (binOp .eql 39 (.slice none 0 0) (.slice none 0 0)).run Tryz.prog w = .ok (.bool true) w := fun _ => rfl
    go_enter Tryz.func101, Tryz.ntmps101
    go_wp2
    go_ret
    exact ⟨none, 0, rfl, own_nil _, grown_refl _ _⟩
  | some ad =>
    have he : ∀ (n c : Nat) (w : World), (binOp .eql 39 (.slice (some ad) n c) (.slice none 0 0)).run Tryz.prog w = .ok (.bool false) w := fun _ _ _ => rfl
    have hE := own_empty w w.heap.size rfl
    have h1 := h.next (World.grownBy_alloc w (.cells #[] 5) none)
    go_enter Tryz.func101, Tryz.ntmps101
    go_wp2_with (at_builtin; go_must (refine wpList_append_rd rfl (.tmp 5) (.tmp 6) rfl w.heap.size _ [] rfl hE _ l rfl h1 (by simp <;> omega) (by simp) ?_); intro v2 w2 hO2 hg2; simp only [List.nil_append] at hO2)
    go_ret
    obtain ⟨a', c', rfl, _, _⟩ := (hO2.sl (by omega)).cap
    exact ⟨a', c', rfl, hO2, grown_more (World.grownBy_alloc w _ none) hg2 (fun b e => .inr (hE.row.lt b e).1)⟩

theorem Rd.lt {w : World} {v : Value} {l : List Int} (h : Rd w v l) (hl : 0 < l.length) {k : Nat} (e : v.ownBlock = some k) : k < w.heap.size := by
  rcases h.val with ⟨rfl, _⟩ | ⟨b, off, cap, rfl, hc⟩
  · simp at hl
  · simp only [Value.ownBlock, Option.some.injEq] at e
    subst e
    exact World.block_lt_of_cell? w ⟨b, off + 0, none⟩ (hc 0 hl)

def UnfOut (B0 : Nat) (w' : World) (r : Except Int (List Int × Nat)) (e : Ending) : Prop :=
  match r with
  | .error x => (x == 0) = false ∧ e = .returned (.tuple #[.slice none 0 0, .int .i64 0, .int .i64 x])
  | .ok (y, m) => ∃ a' c', e = .returned (.tuple #[.slice a' y.length c', .int .i64 m, .int .i64 0]) ∧ Own w' B0 (.slice a' y.length c') y

set_option maxRecDepth 100000 in
set_option maxHeartbeats 1600000 in
theorem unframe_any (a : Option Addr) (c : Nat) (l : List Int) (w : World) (h : Sl w (.slice a l.length c) l) (hl : l.length ≤ 2000000) :
    Calls Tryz.prog 72 #[.slice a l.length c] w fun e w' => w.grownBy w' none ∧ UnfOut w.heap.size w' (Code.unf l) e := by
  have htext := readText_any a c l w h
  unfold Code.unf
  cases hr : Code.rText l with
  | error x =>
    obtain ⟨hx, ho⟩ := textOut_err (a := a) (c := c) hr
    rw [ho] at htext
    go_enter Tryz.func72, Tryz.ntmps72
    go_wp2_with (go_at_call 99; go_must (refine htext.mono ?_); rintro e w1 ⟨rfl, rfl⟩)
    go_ret3
    exact ⟨grown_refl _ _, hx, rfl⟩
  | ok p =>
    obtain ⟨lo, hi⟩ := p
    have ho : textOut l a c = .tuple #[sliced a lo hi c 1, .int .i64 hi, .int .i64 0] := by unfold textOut; rw [hr]
    rw [ho] at htext
    obtain ⟨g1, g2, g3, g4, g5, g6⟩ := Code.rText_ok h.rd.bytes hr
    simp only
    obtain ⟨V, hV⟩ : ∃ V, V = sliced a lo hi c 1 := ⟨_, rfl⟩
    rw [← hV] at htext
    have HV : Hid (V = sliced a lo hi c 1) := hV
    clear hV ho
    by_cases h4 : l.length < hi + 4
    · rw [if_pos h4]
      have h4' : (l.length : Int) - (hi : Int) < 4 := by omega
      have hhi : (hi : Int) ≤ (l.length : Int) := by omega
      clear h4 g6
      go_enter Tryz.func72, Tryz.ntmps72
      go_wp2_with (go_at_call 99; go_must (refine htext.mono ?_); rintro e w1 ⟨rfl, rfl⟩)
      go_ret3
      exact ⟨grown_refl _ _, rfl, rfl⟩
    · rw [if_neg h4]
      have h4' : (4 : Int) ≤ (l.length : Int) - (hi : Int) := by omega
      have hhi : (hi : Int) ≤ (l.length : Int) := by omega
      have hcap : l.length ≤ c ∧ c ≤ 9223372036854775807 := by
        obtain ⟨a', c', e, h1, h2⟩ := h.cap
        injection e with e1 e2 e3
        subst e3
        exact ⟨h1, h2⟩
      -- the pieces of b
      have hSV := h.sub lo hi g1 g2
      rw [← HV.out] at hSV
      have hSH := h.sub 0 hi (Nat.zero_le _) g2
      have hST := h.sub hi (hi + 4) (by omega) (by omega)
      rw [List.drop_zero, Nat.sub_zero] at hSH
      rw [Nat.add_sub_cancel_left] at hST
      have hs1 : ∀ w : World, (Instr.slice 39 (.slice a l.length c) none (some (.int .i64 hi)) none).run Tryz.prog w = .ok (sliced a 0 hi c 1) w := by
        intro w
        rw [run_slice_h (t := 39) (a := a) (len := l.length) (cap := c) (ht := Tryz.underlying39) (kh := .i64) (h := (hi : Int)) (h0 := by omega) (h2 := by omega)]
        rfl
      have hs2 : ∀ w : World, (Instr.slice 39 (.slice a l.length c) (some (.int .i64 hi)) (some (.int .i64 ((hi : Int) + 4))) none).run Tryz.prog w = .ok (sliced a hi (hi + 4) c 1) w := by
        intro w
        rw [run_slice_lh (t := 39) (a := a) (len := l.length) (cap := c) (ht := Tryz.underlying39) (kl := .i64) (kh := .i64) (l := (hi : Int)) (h := ((hi : Int) + 4)) (h0 := by omega) (h1 := by omega) (h2 := by omega)]
        rfl
      have HB : Hid ((l.take hi).length ≤ 2000000) := by show _ ≤ _; rw [List.length_take]; omega
      have HNE : Hid (0 < (l.take hi).length) := by show _ < _; rw [List.length_take]; omega
      have HY : Hid (((l.drop lo).take (hi - lo)).length ≤ 2000000) := by show _ ≤ _; rw [List.length_take, List.length_drop]; omega
      obtain ⟨aV, cV, eV, _, _⟩ := hSV.cap
      obtain ⟨B, hB⟩ : ∃ B, B = sliced a 0 hi c 1 := ⟨_, rfl⟩
      obtain ⟨T, hT⟩ : ∃ T, T = sliced a hi (hi + 4) c 1 := ⟨_, rfl⟩
      rw [← hB] at hs1 hSH
      rw [← hT] at hs2 hST
      clear hB hT
      generalize (l.drop lo).take (hi - lo) = Y at *
      generalize (l.drop hi).take 4 = t4 at *
      generalize l.take hi = hd at *
      subst eV
      have hml := Crc.more_lt 0 hd
      have HML : Hid (Crc.more 0 hd < 4294967296) := hml
      obtain ⟨s, hs⟩ : ∃ s, s = Crc.more 0 hd := ⟨_, rfl⟩
      have HS : Hid (s = Crc.more 0 hd) := hs
      rw [← hs] at HML ⊢
      obtain ⟨q, hq⟩ : ∃ q : Bool, q = decide (Crc.low s = t4) := ⟨_, rfl⟩
      have HQ : Hid (q = decide (Crc.low s = t4)) := hq
      generalize hres : (if Crc.low s = t4 then (Except.ok (Y, hi + 4) : Except Int (List Int × Nat)) else Except.error 22) = res
      have HR : Hid ((if Crc.low s = t4 then (Except.ok (Y, hi + 4) : Except Int (List Int × Nat)) else Except.error 22) = res) := hres
      clear hs hq hml g6 h4 hcap HV hres
      go_enter Tryz.func72, Tryz.ntmps72
      go_wp2_with (go_at_call 99; go_must (refine htext.mono ?_); rintro e w1 ⟨rfl, rfl⟩)
      have g1n : w1.grownBy w1.drew none := grown_drew (grown_refl w1 none)
      have hF := fresh_new w1.drew
      have hR2 := (hSH.rd.next g1n).next (World.grownBy_alloc w1.drew (.cells tab0 168) none)
      have hneB : B.ownBlock ≠ some w1.drew.heap.size := fun e => Nat.lt_irrefl _ (hSH.rd.lt HNE.out e)
      go_region_with (first
        | (go_at_call 78; go_must (refine (new_any _).mono ?_); rintro e w' ⟨rfl, rfl⟩)
        | (go_at_call 79; go_must (refine (sum_first _ _ hd _ hR2 hF hneB).mono ?_); rintro e w3 ⟨rfl, hM⟩; rw [← HS.out])
        | (go_at_call 77; go_must (refine (appendSum_any _ [] s HML.out w3.heap.size w3 (own_nil w3) (Nat.le_refl _) (by simp)).mono ?_); rintro e w4 ⟨v4, rfl, hE4⟩))
      have hz3 := hM.size
      have g3 : w1.grownBy w3 none := grown_more (grown_alloc g1n _) hM.grown (fun b e => .inr (by injection e with e; rw [← e]; exact Nat.le_refl _))
      have g4' : w1.grownBy w4 none := grown_more g3 hE4.grown (fun b e => by simp [Value.ownBlock] at e)
      have hq1 : Rd w4 v4 (Crc.low s) := by have := hE4.own.rd (by simp [Code.low_len]); simpa using this
      have hEq := equal_any v4 T (Crc.low s) t4 w4 hq1 (hST.rd.next g4')
      have hCl := clone_any aV cV Y w4 (hSV.rd.next g4') HY.out
      rw [← HQ.out] at hEq
      clear hE4 hM hR2 hF hneB hq1 hSH hST hSV htext h
      have hnot : ∀ (x : Bool) (w : World), (Op.unary .not (.bool x)).run Tryz.prog w = .ok (.bool (!x)) w := fun _ _ => rfl
      cases q with
      | true =>
        have HRE : Hid (res = Except.ok (Y, hi + 4)) := by have := HR.out; rw [if_pos (of_decide_eq_true HQ.out.symm)] at this; exact this.symm
        go_wp2_with (first
          | (go_at_call 100; go_must (refine hEq.mono ?_); rintro e w5 ⟨rfl, rfl⟩)
          | (go_at_call 101; go_must (refine hCl.mono ?_); rintro e w6 ⟨a6, c6, rfl, hR6, hg6⟩))
        go_ret3
        refine ⟨grown_more g4' hg6 (by simp), ?_⟩
        rw [HRE.out]
        exact ⟨a6, c6, by simp, ⟨owns_low hR6.row g4'.size, hR6.bytes⟩⟩
      | false =>
        have HRE : Hid (res = Except.error 22) := by have := HR.out; rw [if_neg (of_decide_eq_false HQ.out.symm)] at this; exact this.symm
        go_wp2_with (go_at_call 100; go_must (refine hEq.mono ?_); rintro e w5 ⟨rfl, rfl⟩)
        go_ret3
        refine ⟨g4', ?_⟩
        rw [HRE.out]
        exact ⟨rfl, rfl⟩
end Go.Proofs.YtapdhkgeolcogaaGreatDoor.Cd
