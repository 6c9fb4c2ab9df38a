/- What the reading of a field answers. -/
import Derived.Test.YtmolldednpdicaaCText
import Derived.Laws.IdiomStrings
import Derived.Handy
namespace Go.Proofs.Ytmolldednpdicaa
open Go.RowKit

set_option maxRecDepth 100000 in
theorem unfold_any (m : Nat) (hm : m < 18446744073709551616) (w : World) :
    Calls Try.prog 36 #[.int .u64 m] w fun e w' => e = .returned (.int .i64 (Code.unfold m)) ∧ w' = w := by
  have hwr : IntKind.i64.wrap ((m : Int) / 2) = ((m / 2 : Nat) : Int) := by rw [IntKind.wrap_i64]; omega
  have hnot := not_any ((m / 2 : Nat) : Int) ⟨by omega, by omega⟩
  obtain ⟨h, hh⟩ : ∃ h, h = m / 2 := ⟨_, rfl⟩
  rw [← hh] at hwr hnot
  have HH : Hid (h = m / 2) := hh
  clear hh
  go_enter Try.func36, Try.ntmps36
  go_wp2
  all_goals
    go_ret
    refine ⟨ret_int ?_, rfl⟩
    unfold Code.unfold
    rw [← HH.out]
    first
      | (rw [if_pos (by simp at *; omega)]; omega)
      | (rw [if_neg (by simp at *; omega)])

/-- 'string(b)', of any bytes. -/
theorem run_string {w : World} {v : Value} {l : List Int} (h : Rd w v l) : (convert 23 9 v).run Try.prog w = .ok (.string (Code.ofB l)) w := by
  have hnil : ∀ a cap, (convert 23 9 (.slice a 0 cap)).run Try.prog w = .ok (.string (Code.ofB [])) w := by
    intro a cap
    rw [run_convert_bytes_string w 23 9 5 a 0 cap Try.underlying23 Try.underlying5 Try.underlying9]
    cases a with
    | none => rfl
    | some a =>
      have := run_convert_bytes_back (P := Try.prog) w 23 9 5 a cap [] Try.underlying23 Try.underlying5 Try.underlying9 (fun j hj => by simp at hj)
      rw [run_convert_bytes_string w 23 9 5 (some a) _ cap Try.underlying23 Try.underlying5 Try.underlying9] at this
      exact this
  rcases h.val with ⟨rfl, rfl | ⟨a, cap, rfl⟩⟩ | ⟨b, off, cap, rfl, hc⟩
  · exact hnil none 0
  · exact hnil (some a) cap
  · have := run_convert_bytes_back (P := Try.prog) w 23 9 5 ⟨b, off, none⟩ cap (l.map fun x => UInt8.ofNat x.toNat) Try.underlying23 Try.underlying5 Try.underlying9 (fun j hj => by
      have hj' : j < l.length := by simpa using hj
      rw [Addr.add_lit, hc j hj']
      have := h.bytes (l.getD j 0) (by simp [hj'])
      unfold Crc.Byte at this
      simp [hj'] at this ⊢
      omega)
    simpa [Code.ofB] using this

theorem rd_nil (w : World) : Rd w (.slice none 0 0) [] := ⟨fun _ h => (List.not_mem_nil h).elim, Nat.zero_le _, .inl ⟨rfl, .inl rfl⟩⟩

theorem numOut_err {l : List Int} {x : Int} (hr : Code.rNum l = .error x) : (x == 0) = false ∧ numOut l = .tuple #[.int .u64 0, .int .i64 0, .int .i64 x] := by
  refine ⟨?_, by unfold numOut; rw [hr]⟩
  unfold Code.rNum at hr
  cases hi : Code.idx l with
  | none => rw [hi] at hr; injection hr with hr; subst hr; rfl
  | some k => rw [hi] at hr; simp only at hr; split at hr <;> cases hr; rfl
theorem textOut_err {l : List Int} {x : Int} {a : Option Addr} {c : Nat} (hr : Code.rText l = .error x) : (x == 0) = false ∧ textOut l a c = .tuple #[.slice none 0 0, .int .i64 0, .int .i64 x] := by
  refine ⟨?_, by unfold textOut; rw [hr]⟩
  unfold Code.rText at hr
  cases hn : Code.rNum l with
  | error y => rw [hn] at hr; injection hr with hr; subst hr; exact (numOut_err hn).1
  | ok p =>
    obtain ⟨n, s⟩ := p
    rw [hn] at hr
    simp only at hr
    split at hr
    · injection hr with hr; subst hr; rfl
    · split at hr
      · injection hr with hr; subst hr; rfl
      · cases hr

set_option maxRecDepth 100000 in
set_option maxHeartbeats 400000 in
theorem readField_any (k : Int) (a : Option Addr) (c : Nat) (l : List Int) (w : World) (h : Sl w (.slice a l.length c) l) :
    Calls Try.prog 27 #[.int .i64 k, .slice a l.length c] w fun e w' => w.grownBy w' none ∧
      match Code.rField k l with
      | .ok (f, s) => e = .returned (.tuple #[.agg (fc f), .int .i64 s, .int .i64 0])
      | .error x => (x == 0) = false ∧ ∃ y z, e = .returned (.tuple #[.agg (fc y), z, .int .i64 x]) := by
  have hnum := readNumber_any _ l (w.alloc (.cells #[.int .i64 0, .int .i64 0, .string ⟨#[]⟩] 38)) (h.rd.grown (World.grownBy_alloc w _ none) (by cases (Value.ownBlock (.slice a l.length c)) <;> simp))
  have hS1 : Sl (w.alloc (.cells #[.int .i64 0, .int .i64 0, .string ⟨#[]⟩] 38)) (.slice a l.length c) l := ⟨h.rd.grown (World.grownBy_alloc w _ none) (by cases (Value.ownBlock (.slice a l.length c)) <;> simp), h.cap⟩
  have hdone : ∀ o, w.grownBy (w.alloc o) none := fun o => World.grownBy_alloc w o none
  by_cases h1 : k = 1
  · subst h1
    unfold Code.rField
    rw [if_pos rfl]
    cases hr : Code.rNum l with
    | error x =>
      obtain ⟨hx, ho⟩ := numOut_err hr
      rw [ho] at hnum
      simp only
      go_enter Try.func27, Try.ntmps27
      go_wp2_with (go_at_call 35; go_must (refine hnum.mono ?_); rintro e w1 ⟨rfl, rfl⟩)
      go_returns
      exact ⟨hdone _, hx, ⟨1, 0, ⟨#[]⟩⟩, _, rfl⟩
    | ok p =>
      obtain ⟨n, s⟩ := p
      have ho : numOut l = .tuple #[.int .u64 n, .int .i64 s, .int .i64 0] := by unfold numOut; rw [hr]
      obtain ⟨g1, g2, g3, g4⟩ := Code.rNum_ok h.rd.bytes hr
      rw [ho] at hnum
      simp only
      by_cases hn : 9223372036854775807 < n
      · rw [if_pos hn]
        go_enter Try.func27, Try.ntmps27
        go_wp2_with (go_at_call 35; go_must (refine hnum.mono ?_); rintro e w1 ⟨rfl, rfl⟩)
        go_returns
        exact ⟨hdone _, rfl, ⟨0, 0, ⟨#[]⟩⟩, _, rfl⟩
      · rw [if_neg hn]
        have hu : IntKind.i64.wrap (n : Int) = (n : Int) := by rw [IntKind.wrap_i64]; omega
        go_enter Try.func27, Try.ntmps27
        go_wp2_with (go_at_call 35; go_must (refine hnum.mono ?_); rintro e w1 ⟨rfl, rfl⟩)
        go_returns
        exact ⟨hdone _, rfl⟩
  by_cases h2 : k = 2
  · subst h2
    unfold Code.rField
    rw [if_neg h1, if_pos rfl]
    cases hr : Code.rNum l with
    | error x =>
      obtain ⟨hx, ho⟩ := numOut_err hr
      rw [ho] at hnum
      simp only
      go_enter Try.func27, Try.ntmps27
      go_wp2_with (first | (go_at_call 35; go_must (refine hnum.mono ?_); rintro e w1 ⟨rfl, rfl⟩) | (go_at_call 36; go_must (refine (unfold_any 0 (by decide) _).mono ?_); rintro e w1 ⟨rfl, rfl⟩))
      go_returns
      exact ⟨hdone _, hx, ⟨2, Code.unfold 0, ⟨#[]⟩⟩, _, rfl⟩
    | ok p =>
      obtain ⟨n, s⟩ := p
      have ho : numOut l = .tuple #[.int .u64 n, .int .i64 s, .int .i64 0] := by unfold numOut; rw [hr]
      obtain ⟨g1, g2, g3, g4⟩ := Code.rNum_ok h.rd.bytes hr
      rw [ho] at hnum
      simp only
      go_enter Try.func27, Try.ntmps27
      go_wp2_with (first | (go_at_call 35; go_must (refine hnum.mono ?_); rintro e w1 ⟨rfl, rfl⟩) | (go_at_call 36; go_must (refine (unfold_any n g1 _).mono ?_); rintro e w1 ⟨rfl, rfl⟩))
      go_returns
      exact ⟨hdone _, rfl⟩
  clear hnum
  by_cases h3 : k = 3
  · subst h3
    unfold Code.rField
    rw [if_neg h1, if_neg h2, if_pos rfl]
    have htext := readText_any a c l _ hS1
    cases hr : Code.rText l with
    | error x =>
      obtain ⟨hx, ho⟩ := textOut_err (a := a) (c := c) hr
      rw [ho] at htext
      simp only
      have hstr := run_string (w := w.alloc (.cells #[.int .i64 0, .int .i64 0, .string ⟨#[]⟩] 38)) (rd_nil _)
      go_enter Try.func27, Try.ntmps27
      go_wp2_with (go_at_call 29; go_must (refine htext.mono ?_); rintro e w1 ⟨rfl, rfl⟩)
      go_returns
      exact ⟨hdone _, hx, ⟨3, 0, Code.ofB []⟩, _, rfl⟩
    | ok p =>
      obtain ⟨lo, hi⟩ := p
      have ho : textOut l a c = .tuple #[sliced a lo hi c 1, .int .i64 hi, .int .i64 0] := by unfold textOut; rw [hr]
      obtain ⟨g1, g2, g3, g4, g5, g6⟩ := Code.rText_ok h.rd.bytes hr
      rw [ho] at htext
      simp only
      have hstr := run_string (hS1.sub lo hi g1 g2).rd
      obtain ⟨V, hV⟩ : ∃ V, V = sliced a lo hi c 1 := ⟨_, rfl⟩
      obtain ⟨S, hS⟩ : ∃ S, S = Code.ofB (List.take (hi - lo) (List.drop lo l)) := ⟨_, rfl⟩
      rw [← hV] at hstr htext
      rw [← hS] at hstr ⊢
      clear hV hS g6
      go_enter Try.func27, Try.ntmps27
      go_wp2_with (go_at_call 29; go_must (refine htext.mono ?_); rintro e w1 ⟨rfl, rfl⟩)
      go_returns
      exact ⟨hdone _, rfl⟩
  · unfold Code.rField
    rw [if_neg h1, if_neg h2, if_neg h3]
    simp only
    go_enter Try.func27, Try.ntmps27
    go_wp2
    go_returns
    exact ⟨hdone _, rfl, ⟨0, 0, ⟨#[]⟩⟩, _, rfl⟩
end Go.Proofs.Ytmolldednpdicaa
