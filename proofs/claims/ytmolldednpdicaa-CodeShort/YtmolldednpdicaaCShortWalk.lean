/- 'CodeShort', walked. -/
import Derived.Test.YtmolldednpdicaaCAwake
import Derived.OpenShut
namespace Go.Proofs.Ytmolldednpdicaa
open Go.RowKit

namespace Code
def plen (q : Nat) : Nat := if q = 0 then 0 else (put q).length
theorem plen_step {q : Nat} (h : 0 < q) : plen q = 1 + plen (q / 128) := by
  unfold plen
  rw [if_neg (by omega)]
  by_cases h1 : q < 128
  · rw [put_small h1, if_pos (by omega)]; rfl
  · rw [put_big (by omega), if_neg (by omega)]; simp; omega
theorem put_plen (q : Nat) : (put q).length = 1 + plen (q / 128) := by
  by_cases h : q = 0
  · subst h; rw [put_small (by decide)]; rfl
  · rw [← plen_step (by omega)]; unfold plen; rw [if_neg h]
theorem put_mono (a b : Nat) (h : a ≤ b) : (put a).length ≤ (put b).length := by
  induction b using Nat.strongRecOn generalizing a with
  | _ b ih =>
    by_cases h1 : a < 128
    · rw [put_small h1]; exact put_pos b
    · rw [put_big (by omega), put_big (n := b) (by omega)]
      have := ih (b / 128) (by omega) (a / 128) (by omega)
      simp; omega
end Code

theorem one_num (n : Nat) (hn : n < 9223372036854775808) (w : World) :
    Calls Try.prog 10 #[.slice (some ⟨w.heap.size, 0, none⟩) 1 1] (w.alloc (.cells #[.int .i64 1, .int .i64 n, .string ⟨#[]⟩] 38))
      fun e w' => ∃ a c, e = .returned (.tuple #[.slice a (Code.put n).length c, .int .i64 0]) ∧ w.grownBy w' none := by
  have hF := fl_new w [⟨1, n, ⟨#[]⟩⟩] (by intro f hf; simp at hf; subst hf; unfold Code.In64; simp only; omega) 38 _ rfl w.heap.size 1 rfl
  refine (encode_fits _ _ _ hF (by simp) (by intro f hf; simp at hf; subst hf; exact .inl ⟨rfl, by simp only; omega⟩)).mono fun e w' ⟨v', he, hO, hg⟩ => ?_
  have hE : Code.enc [⟨1, (n : Int), ⟨#[]⟩⟩] = Code.put n := by simp [Code.enc, Code.fb]
  rw [hE] at hO
  obtain ⟨a, c, rfl, _, _⟩ := (hO.sl (by have := Code.put_len10 (n := n) (by omega); omega)).cap
  exact ⟨a, c, he, grown_more (World.grownBy_alloc w _ none) hg (by simp)⟩
theorem one_neg (n : Int) (h64 : Code.In64 n) (hn : n < 0) (w : World) :
    Calls Try.prog 10 #[.slice (some ⟨w.heap.size, 0, none⟩) 1 1] (w.alloc (.cells #[.int .i64 1, .int .i64 n, .string ⟨#[]⟩] 38))
      fun e w' => e = .returned (.tuple #[.slice none 0 0, .int .i64 1]) ∧ w.grownBy w' none := by
  have hF := fl_new w [⟨1, n, ⟨#[]⟩⟩] (by intro f hf; simp at hf; subst hf; exact h64) 38 _ rfl w.heap.size 1 rfl
  refine (encode_bad _ _ _ hF (by simp) (fun h => by have := h _ (List.mem_cons_self ..); unfold Code.Fits at this; simp only at this; omega)).mono fun e w' ⟨he, hg⟩ => ?_
  exact ⟨he, grown_more (World.grownBy_alloc w _ none) hg (by simp)⟩

/-- 'Encode' of one Num, whatever it is, as far as CodeShort looks. -/
def lenOf (x : Int) : Nat := if x < 0 then 0 else (Code.put x.toNat).length
theorem one_any (n : Int) (h64 : Code.In64 n) (w : World) :
    Calls Try.prog 10 #[.slice (some ⟨w.heap.size, 0, none⟩) 1 1] (w.alloc (.cells #[.int .i64 1, .int .i64 n, .string ⟨#[]⟩] 38))
      fun e w' => ∃ a c, e = .returned (.tuple #[.slice a (lenOf n) c, .int .i64 (if n < 0 then 1 else 0)]) ∧ w.grownBy w' none := by
  by_cases hn : n < 0
  · unfold lenOf
    rw [if_pos hn, if_pos hn]
    exact (one_neg n h64 hn w).mono fun e w' ⟨h1, h2⟩ => ⟨none, 0, h1, h2⟩
  · unfold lenOf
    rw [if_neg hn, if_neg hn]
    obtain ⟨m, rfl⟩ := Int.eq_ofNat_of_zero_le (show 0 ≤ n by omega)
    exact one_num m (by unfold Code.In64 at h64; omega) w

set_option maxRecDepth 100000 in
set_option maxHeartbeats 800000 in
theorem codeShort.walk0 (w : World) (a b : Int) (ha : Code.In64 a) (hb : Code.In64 b) :
    Calls Try.prog 8 #[.int .i64 a, .int .i64 b] w fun e w' => e = .returned (.bool true) ∧ Below w.heap.size w w' := by
  have hnot : ∀ (x : Bool) (w : World), (Op.unary .not (.bool x)).run Try.prog w = .ok (.bool (!x)) w := fun _ _ => rfl
  obtain ⟨ea, hea⟩ : ∃ ea : Int, ea = if a < 0 then 1 else 0 := ⟨_, rfl⟩
  obtain ⟨eb, heb⟩ : ∃ eb : Int, eb = if b < 0 then 1 else 0 := ⟨_, rfl⟩
  obtain ⟨la, hla⟩ : ∃ la, la = lenOf a := ⟨_, rfl⟩
  obtain ⟨lb, hlb⟩ : ∃ lb, lb = lenOf b := ⟨_, rfl⟩
  have CA := one_any a ha
  have CB := one_any b hb
  rw [← hea, ← hla] at CA
  rw [← heb, ← hlb] at CB
  by_cases hs : a < 0 ∨ b < 0
  · clear hla hlb
    have fin : ∀ w1 w2 w3 : World, w.grownBy w1 none → w1.grownBy w2 none → w2.grownBy w3 none → Below w.heap.size w w3 := fun _ _ _ h1 h2 h3 => grown_below (grown_more (grown_more h1 h2 (by simp)) h3 (by simp))
    have HE : Hid ((a < 0 → ea = 1) ∧ (b < 0 → eb = 1)) := ⟨fun h => by rw [hea, if_pos h], fun h => by rw [heb, if_pos h]⟩
    clear hea heb
    go_enter Try.func8, Try.ntmps8
    go_wp2_with (first
        | (go_at_call 9; refine (awake_any _).mono ?_; rintro e w1 ⟨rfl, hg1⟩; have tok : True := trivial)
        | (go_at_call 10; have _t := tok; go_must (refine (CA _).mono ?_); rintro e w2 ⟨xa, xc, rfl, hg2⟩; clear tok; have tok2 : True := trivial)
        | (go_at_call 10; have _t := tok2; go_must (refine (CB _).mono ?_); rintro e w3 ⟨ya, yc, rfl, hg3⟩; clear tok2))
    all_goals first
      | (go_ret; refine ⟨?_, fin _ _ _ hg1 hg2 hg3⟩; have h1 := HE.out.1; have h2 := HE.out.2; simp at *; first | done | omega | (constructor <;> omega))
      | (exfalso; simp at *; omega)
  · have HEA : Hid (ea = 0) := by show _ = _; rw [hea, if_neg (by omega)]
    obtain ⟨m, rfl⟩ := Int.eq_ofNat_of_zero_le (show 0 ≤ a by omega)
    obtain ⟨q, rfl⟩ := Int.eq_ofNat_of_zero_le (show 0 ≤ b by omega)
    have h3 : ea = 0 := by rw [hea, if_neg (by omega)]
    have h4 : eb = 0 := by rw [heb, if_neg (by omega)]
    have h5 : la = (Code.put m).length := by rw [hla]; unfold lenOf; rw [if_neg (by omega)]; simp
    have h6 : lb = (Code.put q).length := by rw [hlb]; unfold lenOf; rw [if_neg (by omega)]; simp
    have H5 : Hid (la = 1 + Code.plen (m / 128)) := by show _ = _; rw [h5, Code.put_plen]
    have H6 : Hid (m ≤ q → la ≤ lb) := fun h => by rw [h5, h6]; exact Code.put_mono m q h
    have H7 : Hid (la ≤ 10) := by show _ ≤ _; rw [h5]; exact Code.put_len10 (by unfold Code.In64 at ha; omega)
    have HM : Hid (m < 9223372036854775808) := by show _ < _; unfold Code.In64 at ha; omega
    clear hea heb hla hlb h5 h6 hs HEA ha hb
    subst h3 h4
    go_enter Try.func8, Try.ntmps8
    go_wp2_with (first
        | (go_at_call 9; refine (awake_any _).mono ?_; rintro e w1 ⟨rfl, hg1⟩; have tok : True := trivial)
        | (go_at_call 10; have _t := tok; go_must (refine (CA _).mono ?_); rintro e w2 ⟨xa, xc, rfl, hg2⟩; clear tok; have tok2 : True := trivial)
        | (go_at_call 10; have _t := tok2; go_must (refine (CB _).mono ?_); rintro e w3 ⟨ya, yc, rfl, hg3⟩; clear tok2))
    have fin : Below w.heap.size w w3 := grown_below (grown_more (grown_more hg1 hg2 (by simp)) hg3 (by simp))
    clear hg1 hg2 hg3 CA CB
    go_loop [9, 10] (fun n x => ∃ (p r : Nat), x = .int .i64 r ∧ n = .int .i64 p ∧ r < 9223372036854775808 ∧ Hid (la = p + Code.plen r)) (fun _ x => (intOf x).toNat)
    case atStart => exact ⟨1, m / 128, by go_num, rfl, by have := HM.out; omega, H5⟩
    case round =>
      obtain ⟨p, r, rfl, rfl, hr, HP⟩ := hrel
      have hp10 : p ≤ 10 := by have := HP.out; have := H7.out; omega
      by_cases h0 : 0 < r
      · have HS : Hid (Code.plen r = 1 + Code.plen (r / 128)) := Code.plen_step h0
        have h0' : (0 : Int) < (r : Int) := by omega
        clear h0
        go_wp2
        go_round
        case rel => exact ⟨p + 1, r / 128, by go_num, by go_num, by omega, by show _ = _; rw [HP.out, HS.out]; omega⟩
        case measure => simp [intOf]; omega
      · obtain rfl : r = 0 := by omega
        have hlp : la = p := by rw [HP.out]; simp [Code.plen]
        subst hlp
        by_cases hab : (q : Int) < (m : Int)
        · go_wp2
          all_goals first
            | (go_ret; exact ⟨rfl, fin⟩)
            | (exfalso; simp at *; omega)
        · have hle : (la : Int) ≤ (lb : Int) := by have := H6.out (by omega); omega
          go_wp2
          all_goals first
            | (go_ret; exact ⟨rfl, fin⟩)
            | (exfalso; simp at *; omega)

theorem in64_of {n : Int} (h : (Lit.int .i64 n).wf = true) : Code.In64 n := by
  have := Go.bounds_i64 h
  unfold Code.In64
  omega

theorem codeShort.walk (w : World) (a : Int) (wa : (Lit.int .i64 a).wf = true) (b : Int) (wb : (Lit.int .i64 b).wf = true) :
    Calls Try.prog 8 #[.int .i64 a, .int .i64 b] w fun e w' => e = .returned (.bool true) ∧ Below w.heap.size w w' :=
  codeShort.walk0 w a b (in64_of wa) (in64_of wb)
end Go.Proofs.Ytmolldednpdicaa
