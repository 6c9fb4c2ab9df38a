/- 'CodeBack', where the fields are written: they are read again, and held against what came in. -/
import Derived.Test.YtmolldednpdicaaCBackWalk
namespace Go.Proofs.Ytmolldednpdicaa
open Go.RowKit

set_option maxRecDepth 100000 in
set_option maxHeartbeats 3200000 in
theorem back_good (w : World) (aa : Option Addr) (ca : Nat) (fs : List Code.Fd) (ha : Fl w (.slice aa fs.length ca) fs) (hla : fs.length ≤ 1000000000) (vk : Value) (ab : Option Addr) (cb : Nat) (l : List Int) (hb : Rd w (.slice ab l.length cb) l) (ht : Tail w vk (.slice ab l.length cb) l)
    (hf : ∀ f ∈ fs, Code.Fits f) :
    Calls Try.prog 5 #[.slice aa fs.length ca, vk, .slice ab l.length cb] w fun e w' => e = .returned (.bool true) ∧ Below w.heap.size w w' := by
  have hnot : ∀ (x : Bool) (w : World), (Op.unary .not (.bool x)).run Try.prog w = .ok (.bool (!x)) w := fun _ _ => rfl
  have CA := fun w' (h : w.grownBy w' none) => encode_fits2 _ fs w' (ha.next h) hla hf
  have HD : Hid (Code.dec (fs.map (·.k)) (Code.enc fs) = .ok (fs.map Code.norm)) := Code.dec_enc (fun f h => ⟨hf f h, ha.in64 f h⟩)
  have hel : (Code.enc fs).length ≤ fs.length * 65546 := Code.enc_len (fun f h => ⟨hf f h, ha.in64 f h⟩) (Nat.le_refl _)
  have HEL : Hid ((Code.enc fs).length ≤ 9223372036854775807) := by show _ ≤ _; omega
  clear hel hf
  obtain ⟨le, hle⟩ : ∃ le, le = Code.enc fs := ⟨_, rfl⟩
  rw [← hle] at CA HD HEL
  clear hle
  go_enter Try.func5, Try.ntmps5
  go_wp2_with (first
    | (go_at_call 9; refine (awake_any _).mono ?_; rintro e w1 ⟨rfl, hg1⟩)
    | (go_at_call 10; go_must (refine (CA w1 hg1).mono ?_); rintro e w2 ⟨a2, c2, rfl, hO2, hg2⟩; have gg2 := grown_more hg1 hg2 (by simp)))
  clear CA hg1 hg2
  have ha2 := ha.next gg2
  go_loopw [9, 10] (fun v i wr => ∃ k : Nat, k ≤ fs.length ∧ i = .int .i64 k ∧ OwnK wr w2.heap.size v ((fs.take k).map (·.k)) ∧ w2.grownBy wr none) (fun _ i _ => fs.length - (intOf i).toNat)
  case atStart => exact ⟨0, Nat.zero_le _, rfl, ownK_nil w2, grown_refl _ _⟩
  case round =>
    obtain ⟨k, hk, rfl, hOK, hgr⟩ := hrel
    have hzr := hgr.size
    by_cases hlt : k < fs.length
    · obtain ⟨ba, oa, rfl, hA⟩ : ∃ ba oa, aa = some ⟨ba, oa, none⟩ ∧ At wr ba (oa + k * 3) fs[k] := by
        rcases (ha2.next hgr).val with ⟨rfl, _⟩ | ⟨b, off, cap, e, hc⟩
        · simp at hlt
        · injection e with e1 e2 e3
          exact ⟨b, off, e1, hc k hlt⟩
      have HT : Hid ((fs.take (k + 1)).map (·.k) = (fs.take k).map (·.k) ++ [fs[k].k]) := by show _ = _; rw [List.take_succ_eq_append_getElem hlt, List.map_append]; rfl
      have HLK : Hid (((fs.take k).map (·.k)).length + 1 ≤ 17592186044000) := by show _ ≤ _; simp; omega
      have a1 := hA.k
      have i1 : (k : Int) < (fs.length : Int) := by omega
      clear hA
      generalize fs[k].k = fk at *
      obtain ⟨kl, hkl⟩ : ∃ kl, kl = (fs.take k).map (·.k) := ⟨_, rfl⟩
      rw [← hkl] at hOK HT HLK
      clear hkl ha2
      go_wp2_with (at_builtin; go_must (refine wpList_append_kind rfl (.tmp 33) (.tmp 39) rfl w2.heap.size _ kl rfl hOK fk rfl HLK.out hzr ?_); intro v3 w3 hO3 hg3)
      go_roundw
      case rel => exact ⟨k + 1, by omega, by go_num, by rw [HT.out]; exact hO3, grown_more hgr hg3 (fun b e => .inr (hOK.lt b e).1)⟩
      case measure => simp [intOf]; omega
    · obtain rfl : k = fs.length := by omega
      rw [List.take_length] at hOK
      have gg3 := grown_more gg2 hgr (by simp)
      have CD := decode_ok2 _ _ _ le wr hOK.ki (by simp; exact hla) ((hO2.sl HEL.out).grown hgr) HD.out
      have hml : (fs.map Code.norm).length = fs.length := by simp
      rw [hml] at CD
      clear hOK
      go_wp2_with (go_at_call 14; go_must (refine CD.mono ?_); rintro e w4 ⟨a4, c4, rfl, hO4, hg4⟩)
      clear CD
      have gg4 := grown_more gg3 hg4 (by simp)
      have ha4 := ha.next gg4
      have hF4 : Fl w4 (.slice a4 fs.length c4) (fs.map Code.norm) := hO4.fl (fun f hf => by obtain ⟨g, hg, rfl⟩ := List.mem_map.1 hf; exact Code.norm_in (ha.in64 g hg))
      clear hO4 hO2 ha2 hg4 hgr hzr hml hlt
      go_loopw [13] (fun i wr => ∃ k : Nat, k ≤ fs.length ∧ i = .int .i64 k ∧ w4.grownBy wr none) (fun i _ => fs.length - (intOf i).toNat)
      case atStart => exact ⟨0, Nat.zero_le _, rfl, grown_refl _ _⟩
      case round =>
        obtain ⟨k, hk, rfl, hgr⟩ := hrel
        by_cases hlt : k < fs.length
        · obtain ⟨ba, oa, rfl, hA⟩ : ∃ ba oa, aa = some ⟨ba, oa, none⟩ ∧ At wr ba (oa + k * 3) fs[k] := by
            rcases (ha4.next hgr).val with ⟨rfl, _⟩ | ⟨b, off, cap, e, hc⟩
            · simp at hlt
            · injection e with e1 e2 e3
              exact ⟨b, off, e1, hc k hlt⟩
          obtain ⟨bb, ob, rfl, hB⟩ : ∃ ba oa, a4 = some ⟨ba, oa, none⟩ ∧ At wr ba (oa + k * 3) (Code.norm fs[k]) := by
            rcases (hF4.next hgr).val with ⟨e, _⟩ | ⟨b, off, cap, e, hc⟩
            · simp at e; subst e; simp at hlt
            · injection e with e1 e2 e3
              have := hc k (by simpa using hlt)
              rw [List.getElem_map] at this
              exact ⟨b, off, e1, this⟩
          have a1 := hA.k
          have a2 := hA.n
          have a3 := hA.s
          have b1 := hB.k
          have b2 := hB.n
          have b3 := hB.s
          have i1 : (k : Int) < (fs.length : Int) := by omega
          clear hA hB ha4 hF4
          generalize fs[k] = f at *
          obtain ⟨fk, fn, fst⟩ := f
          have GR : ∀ n, w4.grownBy (wr.drewN n) none := fun n => grown_drewN hgr n
          by_cases h3 : fk = 3
          · subst h3
            simp only [Code.norm, if_pos] at a1 a2 a3 b1 b2 b3
            go_wp2
            go_quiet (fail)
            go_wp2
            go_roundw
            case rel => exact ⟨k + 1, by omega, by go_num, GR _⟩
            case measure => simp [intOf]; omega
          · simp only [Code.norm, if_neg h3] at a1 a2 a3 b1 b2 b3
            have h3' : (fk == 3) = false := by simpa using h3
            have h3'' : (fk != 3) = true := by simpa using h3
            clear h3
            go_wp2
            go_quiet (fail)
            go_wp2
            go_roundw
            case rel => exact ⟨k + 1, by omega, by go_num, GR _⟩
            case measure => simp [intOf]; omega
        · obtain rfl : k = fs.length := by omega
          have gg5 := grown_more gg4 hgr (by simp)
          clear ha4 hF4 hlt
          rcases ht.go with ⟨x, hx, D⟩ | ⟨hs, D, E⟩
          · go_wp2_with (go_at_call 14; go_must (refine (D wr gg5).mono ?_); rintro e w6 ⟨rfl, hg6⟩)
            go_ret
            exact ⟨rfl, grown_below (grown_more gg5 hg6 (by simp))⟩
          · go_wp2_with (first
              | (go_at_call 14; go_must (refine (D wr gg5).mono ?_); rintro e w6 ⟨a6, c6, rfl, hF6, hg6⟩; have gg6 := grown_more gg5 hg6 (by simp))
              | (go_at_call 10; go_must (refine (E _ w6 hF6).mono ?_); rintro e w7 ⟨a7, c7, rfl, hR7, hg7⟩; have gg7 := grown_more gg6 hg7 (by simp); have hc1 := run_string hR7; have hc2 := run_string (hb.next gg7)))
            all_goals go_ret
            all_goals exact ⟨rfl, grown_below gg7⟩

theorem codeBack.walk (w : World) (v0 : Value) (fs : List Code.Fd) (h0 : Fl w v0 fs) (s0 : ∃ a c, v0 = .slice a fs.length c ∧ fs.length ≤ c ∧ c ≤ 9223372036854775807) (n0 : fs.length ≤ 1048576)
    (v1 : Value) (ks : List Int) (h1 : Ki w v1 ks) (n1 : ks.length ≤ 1048576) (v2 : Value) (l : List Int) (h2 : Sl w v2 l) (_ : l.length ≤ 1048576) :
    Calls Try.prog 5 #[v0, v1, v2] w fun e w' => e = .returned (.bool true) ∧ Below w.heap.size w w' := by
  have ht := tail_any w v1 ks h1 (by omega) v2 l h2
  obtain ⟨ab, cb, rfl, _, _⟩ := h2.cap
  by_cases hf : ∀ f ∈ fs, Code.Fits f
  · obtain ⟨aa, ca, rfl, _, _⟩ := s0
    exact back_good w aa ca fs h0 (by omega) v1 ab cb l h2.rd ht hf
  · exact back_bad w v0 v1 ab cb l h2.rd ht (fun w' hg => encode_bad v0 fs w' (h0.next hg) (by omega) hf)
end Go.Proofs.Ytmolldednpdicaa
