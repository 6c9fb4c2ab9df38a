/- 'CodeWrites', walked. -/
import Derived.Test.YtmolldednpdicaaCRefFrame
import Derived.Test.YtmolldednpdicaaCJoinsBase
namespace Go.Proofs.Ytmolldednpdicaa
open Go.RowKit

theorem refEnc_out (v : Value) (fs : List Code.Fd) (w : World) (hv : Fl w v fs) (hl : fs.length ≤ 1000000000) :
    Calls Try.prog 11 #[v] w fun e w' => ∃ a c, e = .returned (.tuple #[.slice a (encOut fs).length c, .int .i64 (encErr fs)]) ∧ Own w' w.heap.size (.slice a (encOut fs).length c) (encOut fs) ∧ w.grownBy w' none := by
  refine (refEnc_any v fs w hv hl).mono fun e w' ⟨h1, h⟩ => ?_
  unfold encErr encOut
  rcases h with ⟨hf, v', he, hO⟩ | ⟨hf, he⟩
  · rw [if_pos hf, if_pos hf]
    have hlen : (Code.enc fs).length ≤ fs.length * 65546 := Code.enc_len (fun f hm => ⟨hf f hm, hv.in64 f hm⟩) (Nat.le_refl _)
    obtain ⟨a, c, rfl, _, _⟩ := (hO.sl (by omega)).cap
    exact ⟨a, c, he, hO, h1⟩
  · rw [if_neg hf, if_neg hf]
    exact ⟨none, 0, he, ⟨World.ownsRow_nil w' _ _ _, fun _ h => (List.not_mem_nil h).elim⟩, h1⟩

/-- What a frame's writing answers, told in one way. -/
def frOut (l : List Int) : List Int := if l.length ≤ 65536 then Code.frame l else []
def frErr (l : List Int) : Int := if l.length ≤ 65536 then 0 else 1
theorem frOut_bytes {l : List Int} (h : Crc.Bytes l) : Crc.Bytes (frOut l) := by
  unfold frOut
  split
  · exact Code.frame_bytes h
  · intro x hx; cases hx
theorem frOut_len (l : List Int) : (frOut l).length ≤ 70000 := by
  unfold frOut
  split
  · rename_i h
    rw [Code.frame_len]; have := Code.put_len3 h; omega
  · simp
theorem rd_empty (w : World) : Rd w (.slice none ([] : List Int).length 0) [] := rd_nil w
theorem frame_out (w : World) (a : Option Addr) (c : Nat) (l : List Int) (hl : Rd w (.slice a l.length c) l) :
    Calls Try.prog 12 #[.slice a l.length c] w fun e w' => ∃ a c, e = .returned (.tuple #[.slice a (frOut l).length c, .int .i64 (frErr l)]) ∧ Rd w' (.slice a (frOut l).length c) (frOut l) ∧ w.grownBy w' none := by
  have hle := frOut_len l
  unfold frOut frErr at *
  by_cases hn : l.length ≤ 65536
  · simp only [if_pos hn] at *
    refine (frame_ok w a c l hl (by omega)).mono fun e w' ⟨v', he, hO, hg⟩ => ?_
    obtain ⟨a', c', rfl, _, _⟩ := (hO.sl (by omega)).cap
    exact ⟨a', c', he, hO.rd (by omega), hg⟩
  · simp only [if_neg hn] at *
    exact (frame_long w a l.length c (by omega)).mono fun e w' ⟨he, hw⟩ => ⟨none, 0, he, rd_empty _, by rw [hw]; exact grown_refl _ _⟩
theorem refFrame_out (w : World) (a : Option Addr) (c : Nat) (l : List Int) (hl : Rd w (.slice a l.length c) l) :
    Calls Try.prog 13 #[.slice a l.length c] w fun e w' => ∃ a c, e = .returned (.tuple #[.slice a (frOut l).length c, .int .i64 (frErr l)]) ∧ Rd w' (.slice a (frOut l).length c) (frOut l) ∧ w.grownBy w' none := by
  have hle := frOut_len l
  unfold frOut frErr at *
  by_cases hn : l.length ≤ 65536
  · simp only [if_pos hn] at *
    refine (refFrame_ok w a c l hl (by omega)).mono fun e w' ⟨v', he, hO, hg⟩ => ?_
    obtain ⟨a', c', rfl, _, _⟩ := (hO.sl (by omega)).cap
    exact ⟨a', c', he, hO.rd (by omega), hg⟩
  · simp only [if_neg hn] at *
    exact (refFrame_long w a l.length c (by omega)).mono fun e w' ⟨he, hw⟩ => ⟨none, 0, he, rd_empty _, by rw [hw]; exact grown_refl _ _⟩

theorem encOut_len {fs : List Code.Fd} (h64 : ∀ f ∈ fs, Code.In64 f.n) (hl : fs.length ≤ 1000000000) : (encOut fs).length ≤ 9223372036854775807 := by
  unfold encOut
  split
  · rename_i h
    have : (Code.enc fs).length ≤ fs.length * 65546 := Code.enc_len (fun f hm => ⟨h f hm, h64 f hm⟩) (Nat.le_refl _)
    omega
  · simp

set_option maxRecDepth 100000 in
set_option maxHeartbeats 1600000 in
theorem codeWrites.walk (w : World) (v0 : Value) (fs : List Code.Fd) (h0 : Fl w v0 fs) (_ : ∃ a c, v0 = .slice a fs.length c ∧ fs.length ≤ c ∧ c ≤ 9223372036854775807) (n0 : fs.length ≤ 1048576)
    (v1 : Value) (l : List Int) (h1 : Sl w v1 l) (_ : l.length ≤ 1048576) :
    Calls Try.prog 3 #[v0, v1] w fun e w' => e = .returned (.bool true) ∧ Below w.heap.size w w' := by
  have hnot : ∀ (x : Bool) (w : World), (Op.unary .not (.bool x)).run Try.prog w = .ok (.bool (!x)) w := fun _ _ => rfl
  obtain ⟨ab, cb, rfl, _, _⟩ := h1.cap
  have CE := fun w' (h : w.grownBy w' none) => encode_out v0 fs w' (h0.next h) (by omega)
  have CR := fun w' (h : w.grownBy w' none) => refEnc_out v0 fs w' (h0.next h) (by omega)
  have CF := fun w' (h : w.grownBy w' none) => frame_out w' ab cb l (h1.rd.next h)
  have CG := fun w' (h : w.grownBy w' none) => refFrame_out w' ab cb l (h1.rd.next h)
  have HLE : Hid ((encOut fs).length ≤ 9223372036854775807) := encOut_len h0.in64 (by omega)
  generalize encOut fs = E at *
  generalize encErr fs = ee at *
  generalize frOut l = F at *
  generalize frErr l = fe at *
  obtain ⟨X, hX⟩ : ∃ X, X = Code.ofB E := ⟨_, rfl⟩
  obtain ⟨Y, hY⟩ : ∃ Y, Y = Code.ofB F := ⟨_, rfl⟩
  have HX : Hid (X = Code.ofB E) := hX
  have HY : Hid (Y = Code.ofB F) := hY
  clear hX hY
  go_enter Try.func3, Try.ntmps3
  go_wp2_with (first
    | (go_at_call 9; refine (awake_any _).mono ?_; rintro e w1 ⟨rfl, hg1⟩)
    | (go_at_call 10; go_must (refine (CE w1 hg1).mono ?_); rintro e w2 ⟨a2, c2, rfl, hO2, hg2⟩; have gg2 := grown_more hg1 hg2 (by simp))
    | (go_at_call 11; go_must (refine (CR w2 gg2).mono ?_); rintro e w3 ⟨a3, c3, rfl, hO3, hg3⟩; have gg3 := grown_more gg2 hg3 (by simp))
    | (go_at_call 12; go_must (refine (CF w3 gg3).mono ?_); rintro e w4 ⟨a4, c4, rfl, hO4, hg4⟩; have gg4 := grown_more gg3 hg4 (by simp))
    | (go_at_call 13; go_must (refine (CG w4 gg4).mono ?_); rintro e w5 ⟨a5, c5, rfl, hO5, hg5⟩; have gg5 := grown_more gg4 hg5 (by simp); have s2 := run_string ((hO2.rd HLE.out).next (grown_more (grown_more hg3 hg4 (by simp)) hg5 (by simp))); have s3 := run_string ((hO3.rd HLE.out).next (grown_more hg4 hg5 (by simp))); have s4 := run_string (hO4.next hg5); have s5 := run_string hO5; rw [← HX.out] at s2 s3; rw [← HY.out] at s4 s5))
  all_goals go_ret
  all_goals exact ⟨by simp, grown_below gg5⟩
end Go.Proofs.Ytmolldednpdicaa
