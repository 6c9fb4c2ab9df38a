/- 'CodeBack', walked. -/
import Derived.Test.YtmolldednpdicaaCBackBase
namespace Go.Proofs.Ytmolldednpdicaa
open Go.RowKit

/-- What the second half of CodeBack does: kinds and bytes read, and what was read written. -/
structure Tail (w : World) (vk vb : Value) (l : List Int) : Prop where
  go : (∃ x : Int, (x == 0) = false ∧ ∀ w', w.grownBy w' none → Calls Try.prog 14 #[vk, vb] w' fun e w'' => e = .returned (.tuple #[.slice none 0 0, .int .i64 x]) ∧ w'.grownBy w'' none) ∨
    ∃ fs : List Code.Fd, (∀ w', w.grownBy w' none → Calls Try.prog 14 #[vk, vb] w' fun e w'' => ∃ a c, e = .returned (.tuple #[.slice a fs.length c, .int .i64 0]) ∧ Fl w'' (.slice a fs.length c) fs ∧ w'.grownBy w'' none) ∧
      ∀ v w', Fl w' v fs → Calls Try.prog 10 #[v] w' fun e w'' => ∃ a c, e = .returned (.tuple #[.slice a l.length c, .int .i64 0]) ∧ Rd w'' (.slice a l.length c) l ∧ w'.grownBy w'' none

theorem Ki.next {w w' : World} {v : Value} {ks : List Int} (h : Ki w v ks) (g : w.grownBy w' none) : Ki w' v ks := h.grown g (by cases v.ownBlock <;> simp)

theorem tail_any (w : World) (vk : Value) (ks : List Int) (hk : Ki w vk ks) (hlk : ks.length ≤ 1000000000) (vb : Value) (l : List Int) (hb : Sl w vb l) : Tail w vk vb l := by
  refine ⟨?_⟩
  cases hd : Code.dec ks l with
  | error x =>
    left
    exact ⟨x, dec_err hd, fun w' hg => (decode_err vk ks vb l w' (hk.next hg) hlk (hb.grown hg) hd).mono fun e w'' ⟨h1, _, h3⟩ => ⟨h1, h3⟩⟩
  | ok fs =>
    right
    obtain ⟨h1, h2⟩ := Code.dec_ok hb.rd.bytes hd
    have hlen := dec_len hd
    refine ⟨fs, fun w' hg => (decode_ok2 vk ks vb l w' (hk.next hg) hlk (hb.grown hg) hd).mono fun e w'' ⟨a, c, h3, h4, h5⟩ => ⟨a, c, h3, h4.fl (fun f hf => (h1 f hf).2), h5⟩, fun v w' hv => ?_⟩
    refine (encode_fits2 v fs w' hv (by omega) (fun f hf => (h1 f hf).1)).mono fun e w'' ⟨a, c, h3, h4, h5⟩ => ?_
    rw [h2] at h3 h4
    exact ⟨a, c, h3, h4.rd hb.rd.len, h5⟩

set_option maxRecDepth 100000 in
set_option maxHeartbeats 1600000 in
theorem back_bad (w : World) (v0 : Value) (vk : Value) (ab : Option Addr) (cb : Nat) (l : List Int) (hb : Rd w (.slice ab l.length cb) l) (ht : Tail w vk (.slice ab l.length cb) l)
    (CA : ∀ w', w.grownBy w' none → Calls Try.prog 10 #[v0] w' fun e w'' => e = .returned (.tuple #[.slice none 0 0, .int .i64 1]) ∧ w'.grownBy w'' none) :
    Calls Try.prog 5 #[v0, vk, .slice ab l.length cb] w fun e w' => e = .returned (.bool true) ∧ Below w.heap.size w w' := by
  have hnot : ∀ (x : Bool) (w : World), (Op.unary .not (.bool x)).run Try.prog w = .ok (.bool (!x)) w := fun _ _ => rfl
  rcases ht.go with ⟨x, hx, D⟩ | ⟨fs, D, E⟩
  · go_enter Try.func5, Try.ntmps5
    go_wp2_with (first
      | (go_at_call 9; refine (awake_any _).mono ?_; rintro e w1 ⟨rfl, hg1⟩)
      | (go_at_call 10; go_must (refine (CA w1 hg1).mono ?_); rintro e w2 ⟨rfl, hg2⟩; have gg2 := grown_more hg1 hg2 (by simp))
      | (go_at_call 14; go_must (refine (D w2 gg2).mono ?_); rintro e w3 ⟨rfl, hg3⟩))
    go_ret
    exact ⟨rfl, grown_below (grown_more gg2 hg3 (by simp))⟩
  · go_enter Try.func5, Try.ntmps5
    go_wp2_with (first
      | (go_at_call 9; refine (awake_any _).mono ?_; rintro e w1 ⟨rfl, hg1⟩; have tok1 : True := trivial)
      | (go_at_call 10; have _t := tok1; go_must (refine (CA w1 hg1).mono ?_); rintro e w2 ⟨rfl, hg2⟩; have gg2 := grown_more hg1 hg2 (by simp); clear tok1)
      | (go_at_call 14; go_must (refine (D w2 gg2).mono ?_); rintro e w3 ⟨a3, c3, rfl, hF3, hg3⟩; have gg3 := grown_more gg2 hg3 (by simp); have tok3 : True := trivial)
      | (go_at_call 10; have _t := tok3; go_must (refine (E _ w3 hF3).mono ?_); rintro e w4 ⟨a4, c4, rfl, hR4, hg4⟩; clear tok3; have gg4 := grown_more gg3 hg4 (by simp); have hc1 := run_string hR4; have hc2 := run_string (hb.next gg4)))
    all_goals go_ret
    all_goals exact ⟨rfl, grown_below gg4⟩
end Go.Proofs.Ytmolldednpdicaa
