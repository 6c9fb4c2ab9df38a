/- 'CodeJoins', walked. -/
import Derived.Test.YtmolldednpdicaaCJoinsBase
namespace Go.Proofs.Ytmolldednpdicaa
open Go.RowKit

set_option maxRecDepth 100000 in
set_option maxHeartbeats 1600000 in
theorem joins_good (w : World) (aa : Option Addr) (ca : Nat) (fs : List Code.Fd) (ab : Option Addr) (cb : Nat) (gs : List Code.Fd)
    (ha : Fl w (.slice aa fs.length ca) fs) (hb : Fl w (.slice ab gs.length cb) gs) (hla : (fs.length : Int) ≤ 4096) (hlb : (gs.length : Int) ≤ 4096) (hz64 : ∀ f ∈ fs ++ gs, Code.In64 f.n)
    (ea eb ez : Int) (la lb lz : List Int)
    (CA : ∀ w', w.grownBy w' none → Calls Try.prog 10 #[.slice aa fs.length ca] w' fun e w'' => ∃ a c, e = .returned (.tuple #[.slice a la.length c, .int .i64 ea]) ∧ Own w'' w'.heap.size (.slice a la.length c) la ∧ w'.grownBy w'' none)
    (CB : ∀ w', w.grownBy w' none → Calls Try.prog 10 #[.slice ab gs.length cb] w' fun e w'' => ∃ a c, e = .returned (.tuple #[.slice a lb.length c, .int .i64 eb]) ∧ Own w'' w'.heap.size (.slice a lb.length c) lb ∧ w'.grownBy w'' none)
    (CZ : ∀ v w', Fl w' v (fs ++ gs) → Calls Try.prog 10 #[v] w' fun e w'' => ∃ a c, e = .returned (.tuple #[.slice a lz.length c, .int .i64 ez]) ∧ Own w'' w'.heap.size (.slice a lz.length c) lz ∧ w'.grownBy w'' none)
    (he : ea = 0) (he' : eb = 0) (hz : ez = 0) (hl : lz = la ++ lb) (h1 : la.length ≤ 1000000000) (h2 : lb.length ≤ 1000000000)
    (hiff : fs.length = gs.length → (∀ i (h : i < fs.length) (h' : i < gs.length), fs[i].k = gs[i].k) → (la = lb ↔ ∀ i (h : i < fs.length) (h' : i < gs.length), Code.Same fs[i] gs[i])) :
    Calls Try.prog 7 #[.slice aa fs.length ca, .slice ab gs.length cb] w fun e w' => e = .returned (.bool true) ∧ Below w.heap.size w w' := by
  have hnot : ∀ (x : Bool) (w : World), (Op.unary .not (.bool x)).run Try.prog w = .ok (.bool (!x)) w := fun _ _ => rfl
  subst he he' hz
  have HI := hiff
  have HII : Hid (fs.length = gs.length → (∀ i (h : i < fs.length) (h' : i < gs.length), fs[i].k = gs[i].k) → (la = lb ↔ ∀ i (h : i < fs.length) (h' : i < gs.length), Code.Same fs[i] gs[i])) := HI
  have HZ : Hid (lz = la ++ lb) := hl
  have HL : Hid (la.length ≤ 1000000000 ∧ lb.length ≤ 1000000000) := ⟨h1, h2⟩
  clear hiff HI hl h1 h2
  obtain ⟨X, hX⟩ : ∃ X, X = Code.ofB la := ⟨_, rfl⟩
  obtain ⟨Y, hY⟩ : ∃ Y, Y = Code.ofB lb := ⟨_, rfl⟩
  have HX : Hid (X = Code.ofB la) := hX
  have HY : Hid (Y = Code.ofB lb) := hY
  clear hX hY
  have HE : Hid (Code.ofB lz = X ++ Y) := by show _ = _; rw [HZ.out, ofB_append, ← HX.out, ← HY.out]
  have HS : Hid (X.size + Y.size ≤ 2000000000) := by show _ ≤ _; rw [HX.out, HY.out, Code.ofB_size, Code.ofB_size]; have := HL.out; omega
  go_enter Try.func7, Try.ntmps7
  go_wp2_with (first
    | (go_at_call 9; refine (awake_any _).mono ?_; rintro e w1 ⟨rfl, hg1⟩; have tok1 : True := trivial)
    | (go_at_call 10; have _t := tok1; go_must (refine (CA w1 hg1).mono ?_); rintro e w2 ⟨xa, xc, rfl, hX2, hg2⟩; clear tok1; have gg2 := grown_more hg1 hg2 (by simp); have tok2 : True := trivial)
    | (go_at_call 10; have _t := tok2; go_must (refine (CB w2 gg2).mono ?_); rintro e w3 ⟨ya, yc, rfl, hY3, hg3⟩; clear tok2; have gg3 := grown_more gg2 hg3 (by simp); have hE3 := ownF_empty w3 w3.heap.size rfl; have ha3 := (ha.next gg3).next (World.grownBy_alloc w3 (.cells #[] 38) none); have tok3 : True := trivial)
    | (at_builtin; have _t := tok3; go_must (refine wpList_append_fl rfl (.tmp 34) (.tmp 35) rfl w3.heap.size _ [] rfl hE3 _ fs rfl ha3 (by simp <;> omega) (by simp) ?_); intro v4 w4 hO4 hg4; clear tok3; have gg4 : w3.grownBy w4 none := grown_more (World.grownBy_alloc w3 _ none) hg4 (fun b e => .inr (hE3.lt b e).1); have hb4 := (hb.next gg3).next gg4; have hz4 := gg4.size; simp only [List.nil_append] at hO4; have tok4 : True := trivial)
    | (at_builtin; have _t := tok4; go_must (refine wpList_append_fl rfl (.tmp 37) (.tmp 38) rfl w3.heap.size _ fs rfl hO4 _ gs rfl hb4 (by omega) (by omega) ?_); intro v5 w5 hO5 hg5; clear tok4; have gg5 : w3.grownBy w5 none := grown_more gg4 hg5 (fun b e => .inr (hO4.lt b e).1); have tok5 : True := trivial)
    | (go_at_call 10; have _t := tok5; go_must (refine (CZ _ w5 (hO5.fl hz64)).mono ?_); rintro e w6 ⟨za, zc, rfl, hZ6, hg6⟩; clear tok5; have gg6 := grown_more gg5 hg6 (by simp); have hcx := run_string ((hX2.rd (by have := HL.out; omega)).next (grown_more hg3 gg6 (by simp))); have hcy := run_string ((hY3.rd (by have := HL.out; omega)).next gg6); have hcz := run_string (hZ6.rd (by have := HL.out; rw [HZ.out, List.length_append]; omega)); rw [← HX.out] at hcx; rw [← HY.out] at hcy; rw [HE.out] at hcz))
  all_goals first
    | (go_ret; exact ⟨rfl, grown_below (grown_more gg3 gg6 (by simp))⟩)
    | (exfalso; have := HS.out; unfold maxLen at *; simp at *; omega)
    | skip
  have hlen : fs.length = gs.length := by clear CA CB CZ ha hb hcx hcy hcz; simp at *; omega
  have HLEN : Hid (fs.length = gs.length) := hlen
  clear ‹((fs.length : Int) != (gs.length : Int)) = false›
  have hfin : w.grownBy w6 none := grown_more gg3 gg6 (by simp)
  have ha6 := ha.next hfin
  have hb6 := hb.next hfin
  have HCX : Hid ((convert 23 9 (.slice xa la.length xc)).run Try.prog w6 = .ok (.string X) w6) := hcx
  have hRX := (hX2.rd (by have := HL.out; omega)).next (grown_more hg3 gg6 (by simp))
  have hRY := (hY3.rd (by have := HL.out; omega)).next gg6
  clear ha3 hb4 hE3 hO4 hO5 hg1 hg2 hg3 hg4 hg5 hg6 gg2 gg3 gg4 gg5 hX2 hY3 hZ6 CA CB CZ hcz hcx hcy HCX hlen
  go_loopw [12, 13] (fun sm i wr => ∃ (k : Nat) (b : Bool), k ≤ fs.length ∧ i = .int .i64 k ∧ sm = .bool b ∧ Hid ((∀ i (h : i < fs.length) (h' : i < gs.length), i < k → fs[i].k = gs[i].k) ∧ (b = true ↔ ∀ i (h : i < fs.length) (h' : i < gs.length), i < k → Code.Same fs[i] gs[i])) ∧ w6.grownBy wr none) (fun _ i _ => fs.length - (intOf i).toNat)
  case atStart => exact ⟨0, true, Nat.zero_le _, rfl, rfl, ⟨fun i _ _ h => by omega, by simp⟩, grown_refl _ _⟩
  case round =>
    obtain ⟨k, b, hk, rfl, rfl, HK, hgr⟩ := hrel
    by_cases hlt : k < fs.length
    · have hlt' : k < gs.length := by have := HLEN.out; omega
      obtain ⟨ba, oa, rfl, hA⟩ : ∃ ba oa, aa = some ⟨ba, oa, none⟩ ∧ At wr ba (oa + k * 3) fs[k] := by
        rcases (ha6.next hgr).val with ⟨rfl, _⟩ | ⟨b, off, cap, e, hc⟩
        · simp at hlt
        · injection e with e1 e2 e3
          exact ⟨b, off, e1, hc k hlt⟩
      obtain ⟨bb, ob, rfl, hB⟩ : ∃ ba oa, ab = some ⟨ba, oa, none⟩ ∧ At wr ba (oa + k * 3) gs[k] := by
        rcases (hb6.next hgr).val with ⟨rfl, _⟩ | ⟨b, off, cap, e, hc⟩
        · simp at hlt'
        · injection e with e1 e2 e3
          exact ⟨b, off, e1, hc k hlt'⟩
      have HF : Hid (∀ (b' : Bool), fs[k].k = gs[k].k → (b' = true ↔ b = true ∧ Code.Same fs[k] gs[k]) → (∀ i (h : i < fs.length) (h' : i < gs.length), i < k + 1 → fs[i].k = gs[i].k) ∧ (b' = true ↔ ∀ i (h : i < fs.length) (h' : i < gs.length), i < k + 1 → Code.Same fs[i] gs[i])) := by
        intro b' hkk hb'
        refine ⟨fun i h h' hi => ?_, ?_⟩
        · by_cases e : i = k
          · subst e; exact hkk
          · exact HK.out.1 i h h' (by omega)
        · rw [hb', HK.out.2]
          constructor
          · rintro ⟨h1, h2⟩ i h h' hi
            by_cases e : i = k
            · subst e; exact h2
            · exact h1 i h h' (by omega)
          · intro h1
            exact ⟨fun i h h' hi => h1 i h h' (by omega), h1 k hlt hlt' (by omega)⟩
      have a1 := hA.k
      have a2 := hA.n
      have a3 := hA.s
      have b1 := hB.k
      have b2 := hB.n
      have b3 := hB.s
      clear hA hB HK ha6 hb6
      have i1 : (k : Int) < (fs.length : Int) := by omega
      have i2 : (k : Int) < (gs.length : Int) := by omega
      unfold Code.Same at HF
      generalize fs[k] = f at *
      generalize gs[k] = g at *
      obtain ⟨fk, fn, fst⟩ := f
      obtain ⟨gk, gn, gst⟩ := g
      simp only at a1 a2 a3 b1 b2 b3
      by_cases hkk : fk = gk
      · subst hkk
        have GR : ∀ n, w6.grownBy (wr.drewN n) none := fun n => grown_drewN hgr n
        cases hbb : b with
        | false =>
          subst hbb
          go_wp2
          go_quiet (fail)
          go_wp2
          go_quiet (fail)
          go_wp2
          go_roundw
          case rel => exact ⟨k + 1, false, by omega, by go_num, rfl, HF.out false trivial (by simp), GR _⟩
          case measure => simp [intOf]; omega
        | true =>
          subst hbb
          by_cases h3 : fk = 3
          · subst h3
            by_cases hs : fst = gst
            · subst hs
              go_wp2
              go_quiet (fail)
              go_wp2
              go_quiet (fail)
              go_wp2
              go_roundw
              case rel => exact ⟨k + 1, true, by omega, by go_num, rfl, HF.out true trivial (by simp), GR _⟩
              case measure => simp [intOf]; omega
            · have hs' : (fst.toList == gst.toList) = false := by simpa [toList_inj] using hs
              have HS2 : Hid (¬ fst = gst) := hs
              clear hs
              go_wp2
              go_quiet (fail)
              go_wp2
              go_quiet (fail)
              go_wp2
              go_roundw
              case rel => exact ⟨k + 1, false, by omega, by go_num, rfl, HF.out false trivial (by have := HS2.out; simp [this]), GR _⟩
              case measure => simp [intOf]; omega
          · have h3' : (fk == 3) = false := by simpa using h3
            have h3'' : (fk != 3) = true := by simpa using h3
            have H3 : Hid (¬ fk = 3) := h3
            clear h3
            by_cases hn : fn = gn
            · subst hn
              go_wp2
              go_quiet (fail)
              go_wp2
              go_quiet (fail)
              go_wp2
              go_roundw
              case rel => exact ⟨k + 1, true, by omega, by go_num, rfl, HF.out true trivial (by have := H3.out; simp [this]), GR _⟩
              case measure => simp [intOf]; omega
            · have hn' : (fn == gn) = false := by simpa using hn
              have HN2 : Hid (¬ fn = gn) := hn
              clear hn
              go_wp2
              go_quiet (fail)
              go_wp2
              go_quiet (fail)
              go_wp2
              go_roundw
              case rel => exact ⟨k + 1, false, by omega, by go_num, rfl, HF.out false trivial (by have h1 := H3.out; have h2 := HN2.out; simp [h1, h2]), GR _⟩
              case measure => simp [intOf]; omega
      · have hkf : (fk == gk) = false := by simpa using hkk
        go_wp2
        go_quiet (fail)
        go_wp2
        go_ret
        exact ⟨rfl, grown_below (grown_drewN (grown_more hfin hgr (by simp)) _)⟩
    · obtain rfl : k = fs.length := by omega
      have HQ : Hid (decide (la = lb) = b) := by
        have h1 := HK.out
        have h2 := HLEN.out
        have h3 := HII.out h2 (fun i h h' => h1.1 i h h' h)
        have h4 : b = true ↔ la = lb := by
          rw [h1.2, h3]
          exact ⟨fun h i hi hi' => h i hi hi' hi, fun h i hi hi' _ => h i hi hi'⟩
        show _ = _
        cases hb : b with
        | true => simpa using h4.1 hb
        | false => simp; intro e; have := h4.2 e; rw [hb] at this; cases this
      have hcx := run_string (hRX.next hgr)
      have hcy := run_string (hRY.next hgr)
      have hse := str_eq hRX.bytes hRY.bytes
      rw [HQ.out] at hse
      rw [← HX.out] at hcx hse
      rw [← HY.out] at hcy hse
      clear hRX hRY HK
      go_wp2
      all_goals go_ret
      all_goals exact ⟨by simp_all, grown_below (grown_more hfin hgr (by simp))⟩

theorem codeJoins.walk (w : World) (v0 : Value) (fs : List Code.Fd) (h0 : Fl w v0 fs) (s0 : ∃ a c, v0 = .slice a fs.length c ∧ fs.length ≤ c ∧ c ≤ 9223372036854775807) (v1 : Value) (gs : List Code.Fd) (h1 : Fl w v1 gs) (s1 : ∃ a c, v1 = .slice a gs.length c ∧ gs.length ≤ c ∧ c ≤ 9223372036854775807) :
    Calls Try.prog 7 #[v0, v1] w fun e w' => e = .returned (.bool true) ∧ Below w.heap.size w w' := by
  obtain ⟨aa, ca, rfl, _, _⟩ := s0
  obtain ⟨ab, cb, rfl, _, _⟩ := s1
  by_cases hg : (4096 : Int) < fs.length ∨ (4096 : Int) < gs.length
  · exact joins_great w aa fs.length ca ab gs.length cb hg
  · have h64 : ∀ f ∈ fs ++ gs, Code.In64 f.n := fun f hf => by
      rcases List.mem_append.1 hf with h | h
      · exact h0.in64 f h
      · exact h1.in64 f h
    have CA := fun w' (h : w.grownBy w' none) => encode_out _ fs w' (h0.next h) (by omega)
    have CB := fun w' (h : w.grownBy w' none) => encode_out _ gs w' (h1.next h) (by omega)
    have CZ := fun v w' (h : Fl w' v (fs ++ gs)) => encode_out v (fs ++ gs) w' h (by simp; omega)
    have hall : (∀ f ∈ fs ++ gs, Code.Fits f) ↔ (∀ f ∈ fs, Code.Fits f) ∧ (∀ f ∈ gs, Code.Fits f) := by
      simp only [List.mem_append]
      exact ⟨fun h => ⟨fun f hf => h f (.inl hf), fun f hf => h f (.inr hf)⟩, fun h f hf => hf.elim (h.1 f) (h.2 f)⟩
    by_cases hf : ∀ f ∈ fs ++ gs, Code.Fits f
    · obtain ⟨f1, f2⟩ := hall.1 hf
      have b1 : ∀ f ∈ fs, Code.Fits f ∧ Code.In64 f.n := fun f h => ⟨f1 f h, h0.in64 f h⟩
      have b2 : ∀ f ∈ gs, Code.Fits f ∧ Code.In64 f.n := fun f h => ⟨f2 f h, h1.in64 f h⟩
      have e1 : encOut fs = Code.enc fs := by unfold encOut; rw [if_pos f1]
      have e2 : encOut gs = Code.enc gs := by unfold encOut; rw [if_pos f2]
      have l1 := Code.enc_len b1 (k := 4096) (by omega)
      have l2 := Code.enc_len b2 (k := 4096) (by omega)
      refine joins_good w aa ca fs ab cb gs h0 h1 (by omega) (by omega) h64 _ _ _ _ _ _ CA CB CZ ?_ ?_ ?_ ?_ ?_ ?_ ?_
      · unfold encErr; rw [if_pos f1]
      · unfold encErr; rw [if_pos f2]
      · unfold encErr; rw [if_pos hf]
      · rw [e1, e2]; unfold encOut; rw [if_pos hf, Code.enc_append]
      · rw [e1]; omega
      · rw [e2]; omega
      · intro hl hk
        rw [e1, e2]
        exact Code.enc_same b1 b2 hl hk
    · refine joins_bad w aa ca fs ab cb gs h0 h1 (by omega) (by omega) h64 _ _ _ _ _ _ CA CB CZ ?_ ?_ ?_
      · unfold encErr; rw [if_neg hf]
      · unfold encOut; rw [if_neg hf]
      · by_cases f1 : ∀ f ∈ fs, Code.Fits f
        · right
          unfold encErr
          rw [if_neg (fun h => hf (hall.2 ⟨f1, h⟩))]
          rfl
        · left
          unfold encErr
          rw [if_neg f1]
          rfl
end Go.Proofs.Ytmolldednpdicaa
