/- 'CodeFrames', walked. -/
import Derived.Test.YtmolldednpdicaaCFramesBase
import Derived.OpenShut
namespace Go.Proofs.Ytmolldednpdicaa
open Go.RowKit

set_option maxRecDepth 100000 in
theorem frames_more (w : World) (v0 : Value) (am : Option Addr) (nm cm : Nat) (at' : Int) (t : Int) (hm : (4096 : Int) < nm) :
    Calls Try.prog 6 #[v0, .slice am nm cm, .int .i64 at', .int .u8 t] w fun e w' => e = .returned (.bool true) ∧ Below w.heap.size w w' := by
  have hnot : ∀ (x : Bool) (w : World), (Op.unary .not (.bool x)).run Try.prog w = .ok (.bool (!x)) w := fun _ _ => rfl
  go_enter Try.func6, Try.ntmps6
  go_wp2_with (go_at_call 9; refine (awake_any _).mono ?_; rintro e w1 ⟨rfl, hg1⟩)
  go_ret
  exact ⟨rfl, grown_below hg1⟩

set_option maxRecDepth 100000 in
theorem frames_long (w : World) (ab : Option Addr) (nb cb : Nat) (am : Option Addr) (nm cm : Nat) (at' : Int) (t : Int) (hm : (nm : Int) ≤ 4096) (hb : (65536 : Int) < nb) :
    Calls Try.prog 6 #[.slice ab nb cb, .slice am nm cm, .int .i64 at', .int .u8 t] w fun e w' => e = .returned (.bool true) ∧ Below w.heap.size w w' := by
  have hnot : ∀ (x : Bool) (w : World), (Op.unary .not (.bool x)).run Try.prog w = .ok (.bool (!x)) w := fun _ _ => rfl
  go_enter Try.func6, Try.ntmps6
  go_wp2_with (first
    | (go_at_call 9; refine (awake_any _).mono ?_; rintro e w1 ⟨rfl, hg1⟩)
    | (go_at_call 12; go_must (refine (frame_long _ ab nb cb hb).mono ?_); rintro e w2 ⟨rfl, rfl⟩))
  go_ret
  exact ⟨by simp <;> omega, grown_below hg1⟩

set_option maxRecDepth 100000 in
set_option maxHeartbeats 3200000 in
theorem frames_main (w : World) (ab : Option Addr) (cb : Nat) (l : List Int) (hb : Rd w (.slice ab l.length cb) l) (am : Option Addr) (cm : Nat) (lm : List Int) (hm : Rd w (.slice am lm.length cm) lm)
    (hlm : (lm.length : Int) ≤ 4096) (hlb : (l.length : Int) ≤ 65536) (at' : Int) (A : Nat) (hA : IntKind.u64.wrap at' = (A : Int)) (t : Nat) (ht : t < 256)
    (F : List Int) (hF : F = Code.frame l) (K : Nat) (hK : (A : Int) % (F.length : Int) = (K : Int)) (hKF : K < F.length)
    (z : Nat) (hz : z < 256) (hx : bits .xor .u8 (F.getD K 0) (t : Int) = (z : Int)) (hT : t ≠ 0 → ∀ y m, Code.unf (F.set K z) = .ok (y, m) → m ≠ F.length ∧ y.length ≠ l.length) :
    Calls Try.prog 6 #[.slice ab l.length cb, .slice am lm.length cm, .int .i64 at', .int .u8 t] w fun e w' => e = .returned (.bool true) ∧ Below w.heap.size w w' := by
  have hnot : ∀ (x : Bool) (w : World), (Op.unary .not (.bool x)).run Try.prog w = .ok (.bool (!x)) w := fun _ _ => rfl
  have hfl : F.length ≤ 70000 := by rw [hF, Code.frame_len]; have := Code.put_len3 (n := l.length) (by omega); omega
  have HF1 : Hid (Code.unf (F ++ lm) = .ok (l, F.length)) := by show _ = _; rw [hF]; exact Code.unf_frame (by omega) lm
  have HF2 : Hid (Code.unf (F.take K) = .error 20) := by show _ = _; rw [hF]; exact Code.unf_cut (by omega) K (by rw [← hF]; exact hKF)
  have CF := fun w' (h : w.grownBy w' none) => frame_ok w' ab cb l (hb.next h) hlb
  rw [← hF] at CF
  have HT : Hid (t ≠ 0 → ∀ y m, Code.unf (F.set K z) = .ok (y, m) → m ≠ F.length ∧ y.length ≠ l.length) := hT
  have hu2 : IntKind.u64.wrap (F.length : Int) = (F.length : Int) := by rw [IntKind.wrap_u64]; omega
  have hwk : IntKind.i64.wrap (K : Int) = (K : Int) := by rw [IntKind.wrap_i64]; omega
  have hKI : (K : Int) < (F.length : Int) := by omega
  have hF0 : ((F.length : Int) == 0) = false := beq_eq_false_iff_ne.2 (by omega)
  have HLL : Hid (F.length ≤ 70000 ∧ lm.length ≤ 4096 ∧ 0 < F.length) := ⟨hfl, by omega, by omega⟩
  have HKF : Hid (K < F.length) := hKF
  have hzb : Crc.Byte (z : Int) := by unfold Crc.Byte; omega
  obtain ⟨X, hX⟩ : ∃ X, X = Code.ofB l := ⟨_, rfl⟩
  have HX : Hid (X = Code.ofB l) := hX
  obtain ⟨x, hxx⟩ : ∃ x, x = F.getD K 0 := ⟨_, rfl⟩
  rw [← hxx] at hx
  have HXX : Hid (F.getD K 0 = x) := hxx.symm
  clear hF hT hX hxx hfl hKF
  go_enter Try.func6, Try.ntmps6
  go_wp2_with (first
    | (go_at_call 9; refine (awake_any _).mono ?_; rintro e w1 ⟨rfl, hg1⟩)
    | (go_at_call 12; go_must (refine (CF w1 hg1).mono ?_); rintro e w2 ⟨v2, rfl, hO2, hg2⟩; have gg2 := grown_more hg1 hg2 (by simp); obtain ⟨g2, c2, rfl, hc2⟩ := own_form hO2 HLL.out.2.2; have hE2 := own_empty w2 w2.heap.size rfl; have hR2 := (hO2.rd (by have := HLL.out; omega)).next (World.grownBy_alloc w2 (.cells #[] 5) none); have tok2 : True := trivial)
    | (at_builtin; have _t := tok2; go_must (refine wpList_append_rd rfl (.tmp 37) (.tmp 38) rfl w2.heap.size _ [] rfl hE2 _ F rfl hR2 (by have := HLL.out; simp <;> omega) (by simp) ?_); intro v3 w3 hO3 hg3; clear tok2; simp only [List.nil_append] at hO3; have k3 : w2.grownBy w3 none := grown_more (World.grownBy_alloc w2 _ none) hg3 (fun b e => .inr (hE2.row.lt b e).1); have hm3 := hm.next (grown_more gg2 k3 (by simp)); have hz3 := k3.size; have tok3 : True := trivial)
    | (at_builtin; have _t := tok3; go_must (refine wpList_append_rd rfl (.tmp 40) (.tmp 41) rfl w2.heap.size _ F rfl hO3 _ lm rfl hm3 (by have := HLL.out; omega) hz3 ?_); intro v4 w4 hO4 hg4; clear tok3; have k4 : w2.grownBy w4 none := grown_more k3 hg4 (fun b e => .inr (hO3.row.lt b e).1); obtain ⟨g4, c4, rfl, hc4⟩ := own_form hO4 (by have := HLL.out; rw [List.length_append]; omega); have hS4 : Sl w4 (.slice (some ⟨g4, 0, none⟩) (F.length + lm.length) c4) (F ++ lm) := by { have := hO4.sl (by have := HLL.out; rw [List.length_append]; omega); rwa [List.length_append] at this }; have tok4 : True := trivial)
    | (go_at_call 16; have _t := tok4; go_must (refine (unframe_ok _ (F.length + lm.length) _ (F ++ lm) (List.length_append).symm w4 hS4 (by have := HLL.out; rw [List.length_append]; omega) HF1.out).mono ?_); rintro e w5 ⟨a5, c5, rfl, hR5, hg5⟩; clear tok4; have k5 := grown_more k4 hg5 (by simp); have s1 := run_string hR5; have s2 := run_string (hb.next (grown_more gg2 k5 (by simp))); rw [← HX.out] at s1 s2; have hS5 := (sl_take (hO2.sl (by have := HLL.out; omega)) K (Nat.le_of_lt HKF.out)).grown k5; have tok5 : True := trivial)
    | (go_at_call 16; have _t := tok5; go_must (refine (unframe_err _ K _ (F.take K) (by rw [List.length_take]; have := HKF.out; omega) w5 hS5 (by have := HLL.out; rw [List.length_take]; omega) HF2.out).mono ?_); rintro e w6 ⟨rfl, _, hg6⟩; clear tok5; have k6 := grown_more k5 hg6 (by simp); have hE6 := own_empty w6 w6.heap.size rfl; have hR6 := ((hO2.rd (by have := HLL.out; omega)).next k6).next (World.grownBy_alloc w6 (.cells #[] 5) none); have tok6 : True := trivial)
    | (at_builtin; have _t := tok6; go_must (refine wpList_append_rd rfl (.tmp 81) (.tmp 82) rfl w6.heap.size _ [] rfl hE6 _ F rfl hR6 (by have := HLL.out; simp <;> omega) (by simp) ?_); intro v7 w7 hO7 hg7; clear tok6; simp only [List.nil_append] at hO7; have k7 : w6.grownBy w7 none := grown_more (World.grownBy_alloc w6 _ none) hg7 (fun b e => .inr (hE6.row.lt b e).1); obtain ⟨g7, c7, rfl, hc7⟩ := own_form hO7 HLL.out.2.2; have hcell := own_at hO7 K HKF.out; rw [HXX.out] at hcell; have hfz := own_thaw hO7 K; have hO8 := own_put hO7 K z hzb; have hg7b := (hO7.row.lt g7 rfl).1; have tok7 : True := trivial))
  have hS8 : Sl (w7.setCell ⟨g7, K, none⟩ (.int .u8 z)) (.slice (some ⟨g7, 0, none⟩) F.length c7) (F.set K z) := by
    have := hO8.sl (by have := HLL.out; rw [List.length_set]; omega)
    rwa [List.length_set] at this
  have fin7 : w.grownBy w7 none := grown_more (grown_more gg2 k6 (by simp)) k7 (by simp)
  have hz6 := (grown_more gg2 k6 (by simp)).size
  have fin8 : w.grownBy (w7.setCell ⟨g7, K, none⟩ (.int .u8 z)) none := grown_set_new fin7 ⟨g7, K, none⟩ (Nat.le_trans hz6 hg7b) _
  refine (unframe_three _ F.length _ (F.set K z) (List.length_set).symm _ hS8 (by have := HLL.out; rw [List.length_set]; omega)).mono ?_
  rintro e w9 ⟨a9, n9, c9, m9, x9, rfl, hcond, hg9⟩
  have fin9 := grown_below (grown_more fin8 hg9 (by simp))
  have HC : Hid (t ≠ 0 → (x9 == 0) = false ∨ (m9 ≠ F.length ∧ n9 ≠ l.length)) := by
    intro h0
    rcases hcond with h | ⟨y, hy, e⟩
    · exact .inl h
    · right
      have := HT.out h0 y m9 hy
      rw [e]
      exact this
  clear hcond hS8 hO8 hO7 hO4 hO3 hO2 hR2 hR5 hR6 hE2 hE6 hm3 hS4 hS5 hcell hfz
  by_cases h0 : t = 0
  · subst h0
    go_wp2
    all_goals go_ret
    all_goals exact ⟨rfl, fin9⟩
  · have h0' : ((t : Int) == 0) = false := beq_eq_false_iff_ne.2 (by omega)
    rcases HC.out h0 with hx9 | ⟨hm9, hn9⟩
    · clear h0
      go_wp2
      all_goals first
        | (go_ret; exact ⟨rfl, fin9⟩)
        | (exfalso; simp at *; omega)
    · have e1 : ((m9 : Int) == (F.length : Int)) = false := beq_eq_false_iff_ne.2 (by omega)
      have e2 : ((n9 : Int) == (l.length : Int)) = false := beq_eq_false_iff_ne.2 (by omega)
      clear h0 hm9 hn9
      go_wp2
      all_goals go_ret
      all_goals exact ⟨by simp_all, fin9⟩

theorem codeFrames.walk (w : World) (v0 : Value) (l : List Int) (h0 : Sl w v0 l) (v1 : Value) (lm : List Int) (h1 : Sl w v1 lm) (at' : Int) (wa : (Lit.int .i64 at').wf = true) (t' : Int) (wt : (Lit.int .u8 t').wf = true) :
    Calls Try.prog 6 #[v0, v1, .int .i64 at', .int .u8 t'] w fun e w' => e = .returned (.bool true) ∧ Below w.heap.size w w' := by
  have hat := Go.bounds_i64 wa
  have htt := Go.bounds_u8 wt
  obtain ⟨t, rfl⟩ := Int.eq_ofNat_of_zero_le htt.1
  obtain ⟨ab, cb, rfl, _, _⟩ := h0.cap
  obtain ⟨am, cm, rfl, _, _⟩ := h1.cap
  by_cases hm : (4096 : Int) < lm.length
  · exact frames_more w _ am _ cm at' t hm
  by_cases hb : (65536 : Int) < l.length
  · exact frames_long w ab _ cb am _ cm at' t (by omega) hb
  have hFl := Code.frame_len l
  have hFb := Code.frame_bytes h0.rd.bytes
  obtain ⟨A, hA⟩ : ∃ A : Nat, IntKind.u64.wrap at' = (A : Int) := ⟨(IntKind.u64.wrap at').toNat, by rw [IntKind.wrap_u64]; omega⟩
  have hpos : 0 < (Code.frame l).length := by rw [hFl]; omega
  have hK : A % (Code.frame l).length < (Code.frame l).length := Nat.mod_lt _ hpos
  have hxb : Crc.Byte ((Code.frame l).getD (A % (Code.frame l).length) 0) := by
    rw [List.getD_eq_getElem?_getD, List.getElem?_eq_getElem hK]
    exact hFb _ (List.getElem_mem hK)
  unfold Crc.Byte at hxb
  obtain ⟨x, hx⟩ := Int.eq_ofNat_of_zero_le hxb.1
  have hx' : (Code.frame l).getD (A % (Code.frame l).length) 0 = (x : Int) := hx
  have hxl : x < 256 := by omega
  have hz : x ^^^ t < 256 := Nat.xor_lt_two_pow (n := 8) hxl (by omega)
  refine frames_main w ab cb l h0.rd am cm lm h1.rd (by omega) (by omega) at' A hA t (by omega) (Code.frame l) rfl (A % (Code.frame l).length) (by omega) hK (x ^^^ t) hz ?_ ?_
  · rw [hx']
    exact u8_xor_nat x t hxl (by omega)
  · intro ht0 y m hu
    refine Code.unf_turn h0.rd.bytes (by omega) _ hK _ (by unfold Crc.Byte; omega) ?_ hu
    rw [hx']
    intro e
    have e' : x ^^^ t = x := by omega
    have := congrArg (x ^^^ ·) e'
    simp [← Nat.xor_assoc] at this
    exact ht0 this
end Go.Proofs.Ytmolldednpdicaa
