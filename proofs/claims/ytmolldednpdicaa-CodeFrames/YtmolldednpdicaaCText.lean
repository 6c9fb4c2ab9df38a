/- What the reading of a text answers. -/
import Derived.Test.YtmolldednpdicaaCRead
namespace Go.Proofs.Ytmolldednpdicaa
open Go.RowKit

theorem readNumber_any (v : Value) (l : List Int) (w : World) (h : Rd w v l) :
    Calls Try.prog 35 #[v] w fun e w' => e = .returned (numOut l) ∧ w' = w := by
  have empty : ∀ a cap, Calls Try.prog 35 #[.slice a 0 cap] w fun e w' => e = .returned (numOut []) ∧ w' = w := by
    intro a cap
    go_enter Try.func35, Try.ntmps35
    go_wp2_with (go_at_call 38; refine (index_none a cap _ _).mono ?_; rintro e w1 ⟨rfl, rfl⟩)
    go_ret3
    exact ⟨rfl, rfl⟩
  rcases h.val with ⟨rfl, rfl | ⟨a, cap, rfl⟩⟩ | ⟨b, off, cap, rfl, hc⟩
  · exact empty none 0
  · exact empty (some a) cap
  · exact readNumber_some b off cap l h.bytes h.len w hc

/-- A slice of bytes, with a capacity that is no less than its length. -/
structure Sl (w : World) (v : Value) (l : List Int) : Prop where
  rd : Rd w v l
  cap : ∃ a c, v = .slice a l.length c ∧ l.length ≤ c ∧ c ≤ 9223372036854775807

theorem sliced_empty (a : Addr) (lo c : Nat) : ∃ a' cap, sliced (some a) lo lo c 1 = .slice (some a') 0 cap := by
  unfold sliced
  by_cases h : c = lo
  · exact ⟨a, c - lo, by simp [h]⟩
  · exact ⟨a.add lo, c - lo, by simp [h]⟩

theorem Sl.sub {w : World} {a : Option Addr} {c : Nat} {l : List Int} (h : Sl w (.slice a l.length c) l) (lo hi : Nat) (h1 : lo ≤ hi) (h2 : hi ≤ l.length) : Sl w (sliced a lo hi c 1) ((l.drop lo).take (hi - lo)) := by
  obtain ⟨a', c', e, hc1, hc2⟩ := h.cap
  injection e with e1 e2 e3
  subst e1 e3
  have hlen : ((l.drop lo).take (hi - lo)).length = hi - lo := by simp; omega
  have hl := h.rd.len
  refine ⟨⟨(h.rd.bytes.drop lo).take _, by omega, ?_⟩, ⟨_, _, by rw [hlen]; rfl, by omega, by omega⟩⟩
  rcases h.rd.val with ⟨rfl, hv⟩ | ⟨b, off, cap, e, hc⟩
  · refine .inl ⟨by simp, ?_⟩
    simp at h2
    subst h2
    obtain rfl : lo = 0 := by omega
    cases a with
    | none => exact .inl (by simp at hv; simp [sliced, hv])
    | some a => exact .inr (sliced_empty a 0 c)
  · injection e with e1 e2 e3
    subst e1 e3
    by_cases hz : hi = lo
    · subst hz
      exact .inl ⟨by simp, .inr (sliced_empty _ hi c)⟩
    · refine .inr ⟨b, off + lo, c - lo, ?_, fun i hi' => ?_⟩
      · unfold sliced
        rw [hlen, if_neg (by omega)]
        simp [Addr.add]
      · rw [hlen] at hi'
        have := hc (lo + i) (by omega)
        rw [← Nat.add_assoc] at this
        rw [this]
        simp [hi', List.getElem?_drop]

def textOut (l : List Int) (a : Option Addr) (c : Nat) : Value :=
  match Code.rText l with
  | .error e => .tuple #[.slice none 0 0, .int .i64 0, .int .i64 e]
  | .ok (lo, hi) => .tuple #[sliced a lo hi c 1, .int .i64 hi, .int .i64 0]

set_option maxRecDepth 100000 in
set_option maxHeartbeats 400000 in
theorem readText_any (a : Option Addr) (c : Nat) (l : List Int) (w : World) (h : Sl w (.slice a l.length c) l) :
    Calls Try.prog 29 #[.slice a l.length c] w fun e w' => e = .returned (textOut l a c) ∧ w' = w := by
  have hnum := readNumber_any _ l w h.rd
  have hlen := h.rd.len
  have hcap : l.length ≤ c ∧ c ≤ 9223372036854775807 := by
    obtain ⟨a', c', e, h1, h2⟩ := h.cap
    injection e with e1 e2 e3
    subst e3
    exact ⟨h1, h2⟩
  obtain ⟨hc1, hc2⟩ := hcap
  unfold numOut at hnum
  unfold textOut Code.rText
  cases hr : Code.rNum l with
  | error x =>
    have hx : (x == 0) = false := by
      unfold Code.rNum at hr
      cases hi : Code.idx l with
      | none => rw [hi] at hr; injection hr with hr; subst hr; rfl
      | some k => rw [hi] at hr; simp only at hr; split at hr <;> cases hr; rfl
    rw [hr] at hnum
    simp only at hnum ⊢
    go_enter Try.func29, Try.ntmps29
    go_wp2_with (go_at_call 35; refine hnum.mono ?_; rintro e w1 ⟨rfl, rfl⟩)
    go_ret3
    exact ⟨rfl, rfl⟩
  | ok p =>
    obtain ⟨n, s⟩ := p
    rw [hr] at hnum
    simp only at hnum ⊢
    obtain ⟨g1, g2, g3, g4⟩ := Code.rNum_ok h.rd.bytes hr
    by_cases hn : 65536 < n
    · rw [if_pos hn]
      go_enter Try.func29, Try.ntmps29
      go_wp2_with (go_at_call 35; refine hnum.mono ?_; rintro e w1 ⟨rfl, rfl⟩)
      go_ret3
      exact ⟨rfl, rfl⟩
    · rw [if_neg hn]
      have hu : IntKind.i64.wrap (n : Int) = (n : Int) := by rw [IntKind.wrap_i64]; omega
      have hs10 : s ≤ 10 := by
        have := congrArg List.length g4
        have h10 := Code.put_len10 g1
        simp at this
        omega
      by_cases he : l.length < s + n
      · rw [if_pos he]
        have he' : (l.length : Int) < (s : Int) + (n : Int) := by omega
        clear he
        go_enter Try.func29, Try.ntmps29
        go_wp2_with (go_at_call 35; refine hnum.mono ?_; rintro e w1 ⟨rfl, rfl⟩)
        go_ret3
        exact ⟨rfl, rfl⟩
      · rw [if_neg he]
        have he' : (s : Int) + (n : Int) ≤ (l.length : Int) := by omega
        obtain ⟨V, hV⟩ : ∃ V, V = sliced a s (s + n) c 1 := ⟨_, rfl⟩
        have hsl : ∀ w : World, (Instr.slice 23 (.slice a l.length c) (some (.int .i64 s)) (some (.int .i64 ((s : Int) + (n : Int)))) none).run Try.prog w = .ok V w := by
          intro w
          rw [run_slice_lh (t := 23) (a := a) (len := l.length) (cap := c) (ht := Try.underlying23) (kl := .i64) (kh := .i64) (l := (s : Int)) (h := ((s : Int) + (n : Int))) (h0 := by omega) (h1 := by omega) (h2 := by omega), hV]
          rfl
        have hq : ((s : Int) + (n : Int)) = ((s + n : Nat) : Int) := by omega
        have HR : Hid (Value.tuple #[sliced a s (s + n) c 1, .int .i64 ((s + n : Nat) : Int), .int .i64 0] = Value.tuple #[V, .int .i64 ((s : Int) + (n : Int)), .int .i64 0]) := by show _ = _; rw [hq, hV]
        simp only
        rw [HR.out]
        clear hq he HR hV
        go_enter Try.func29, Try.ntmps29
        go_wp2_with (go_at_call 35; refine hnum.mono ?_; rintro e w1 ⟨rfl, rfl⟩)
        go_ret3
        exact ⟨rfl, rfl⟩
end Go.Proofs.Ytmolldednpdicaa
