/- What the document's own Unframe answers. What the document's own Decode answers of one number. -/
import Derived.Test.YtapdhkgeolcogaaGreatDoorHg
import Derived.Test.YtapdhkgeolcogaaGreatDoorGl
namespace Go.Proofs.YtapdhkgeolcogaaGreatDoor.Cd
open Go.RowKit
set_option linter.unusedVariables false

set_option maxRecDepth 100000 in
theorem refNum_any (v : Value) (l : List Int) (w : World) (hv : Rd w v l) (hl : l.length ≤ 9223372036854775000) :
    Calls Tryz.prog 75 #[v, .int .i64 0] w fun e w' => w' = w ∧ NumOut (Code.rNum l) e := by
  have none : ∀ (a : Option Addr) (cap : Nat), Calls Tryz.prog 75 #[.slice a 0 cap, .int .i64 0] w fun e w' => w' = w ∧ NumOut (Code.rNum []) e := by
    intro a cap
    go_enter Tryz.func75, Tryz.ntmps75
    go_wp2
    go_loop [7] (fun q => q = .int .i64 0) (fun _ => 0)
    case atStart => rfl
    case round =>
      obtain rfl := hrel
      go_wp2
      go_loop [9] (fun q => q = .int .i64 1) (fun _ => 0)
      case atStart => rfl
      case round =>
        obtain rfl := hrel
        go_wp2
        go_ret3
        exact ⟨rfl, 20, rfl, rfl⟩
  rcases hv.val with ⟨rfl, rfl | ⟨a, cap, rfl⟩⟩ | ⟨b, off, cap, rfl, hc⟩
  · exact none _ _
  · exact none (some a) cap
  · exact refNum_some b off cap l hv.bytes hl w hc

def UnfR (B0 : Nat) (w' : World) (r : Except Int (List Int × Nat)) (e : Ending) : Prop :=
  match r with
  | .error _ => ∃ x : Int, (x == 0) = false ∧ e = .returned (.tuple #[.slice none 0 0, .int .i64 0, .int .i64 x])
  | .ok (y, m) => ∃ a' c', e = .returned (.tuple #[.slice a' y.length c', .int .i64 m, .int .i64 0]) ∧ Own w' B0 (.slice a' y.length c') y
theorem unf_no {l : List Int} {e : Int} (h : Code.rNum l = .error e) : ∃ x, Code.unf l = .error x := by unfold Code.unf Code.rText; rw [h]; exact ⟨_, rfl⟩
theorem unf_big {l : List Int} {n s : Nat} (h : Code.rNum l = .ok (n, s)) (hn : 65536 < n) : ∃ x, Code.unf l = .error x := by unfold Code.unf Code.rText; rw [h]; simp only; rw [if_pos hn]; exact ⟨_, rfl⟩
theorem unf_short {l : List Int} {n s : Nat} (h : Code.rNum l = .ok (n, s)) (hn : ¬ 65536 < n) (hs : l.length < s + n + 4) : ∃ x, Code.unf l = .error x := by
  unfold Code.unf Code.rText
  rw [h]
  simp only
  rw [if_neg hn]
  by_cases h1 : l.length < s + n
  · rw [if_pos h1]; exact ⟨_, rfl⟩
  · rw [if_neg h1]
    simp only
    rw [if_pos hs]
    exact ⟨_, rfl⟩
theorem unf_long {l : List Int} {n s : Nat} (hb : Crc.Bytes l) (h : Code.rNum l = .ok (n, s)) (hn : ¬ 65536 < n) (hs : ¬ l.length < s + n + 4) :
    (Code.frame ((l.drop s).take n) = l.take (s + n + 4) → Code.unf l = .ok ((l.drop s).take n, s + n + 4)) ∧ (¬ Code.frame ((l.drop s).take n) = l.take (s + n + 4) → ∃ x, Code.unf l = .error x) := by
  obtain ⟨r1, r2, r3, r4⟩ := Code.rNum_ok hb h
  have hlen : ((l.drop s).take n).length = n := by rw [List.length_take, List.length_drop]; omega
  have hu : Code.unf l = if Crc.low (Crc.more 0 (l.take (s + n))) = (l.drop (s + n)).take 4 then .ok ((l.drop s).take n, s + n + 4) else .error 22 := by
    unfold Code.unf Code.rText
    rw [h]
    simp only
    rw [if_neg hn, if_neg (by omega)]
    simp only
    rw [if_neg hs, Nat.add_sub_cancel_left]
  have htk : l.take (s + n) = Code.head ((l.drop s).take n) := by
    unfold Code.head
    rw [hlen, ← r4, List.take_add]
  have htk4 : l.take (s + n + 4) = Code.head ((l.drop s).take n) ++ (l.drop (s + n)).take 4 := by rw [List.take_add, htk]
  have hiff : Code.frame ((l.drop s).take n) = l.take (s + n + 4) ↔ Crc.low (Crc.more 0 (l.take (s + n))) = (l.drop (s + n)).take 4 := by
    rw [htk4, htk]
    unfold Code.frame
    exact List.append_right_inj _
  rw [hu]
  refine ⟨fun e => by rw [if_pos (hiff.1 e)], fun e => ?_⟩
  rw [if_neg (fun e2 => e (hiff.2 e2))]
  exact ⟨_, rfl⟩

set_option maxRecDepth 100000 in
set_option maxHeartbeats 3200000 in
theorem refUnf_any (a : Option Addr) (c : Nat) (l : List Int) (w : World) (h : Sl w (.slice a l.length c) l) (hl : l.length ≤ 2000000) :
    Calls Tryz.prog 57 #[.slice a l.length c] w fun e w' => w.grownBy w' none ∧ UnfR w.heap.size w' (Code.unf l) e := by
  have NU := refNum_any (.slice a l.length c) l w h.rd (by omega)
  cases hr : Code.rNum l with
  | error x =>
    rw [hr] at NU
    obtain ⟨y, hy⟩ := unf_no hr
    rw [hy]
    clear hr hy
    go_enter Tryz.func57, Tryz.ntmps57
    go_wp2_with (go_at_call 75; go_must (refine NU.mono ?_); rintro e w1 ⟨rfl, z, hz, rfl⟩)
    go_ret3
    exact ⟨grown_refl _ _, z, hz, rfl⟩
  | ok p =>
    obtain ⟨n, s⟩ := p
    rw [hr] at NU
    obtain ⟨r1, r2, r3, r4⟩ := Code.rNum_ok h.rd.bytes hr
    by_cases hn : 65536 < n
    · obtain ⟨y, hy⟩ := unf_big hr hn
      rw [hy]
      have hni : (65536 : Int) < (n : Int) := by omega
      clear hr hy r4
      go_enter Tryz.func57, Tryz.ntmps57
      go_wp2_with (go_at_call 75; go_must (refine NU.mono ?_); rintro e w1 ⟨rfl, rfl⟩)
      go_ret3
      exact ⟨grown_refl _ _, 21, rfl, rfl⟩
    · have hni : ¬ (65536 : Int) < (n : Int) := by omega
      have hcv : IntKind.i64.wrap (n : Int) = (n : Int) := by rw [IntKind.wrap_i64]; omega
      by_cases hs : l.length < s + n + 4
      · obtain ⟨y, hy⟩ := unf_short hr hn hs
        rw [hy]
        have hsi : (l.length : Int) < (s : Int) + (n : Int) + 4 := by omega
        clear hr hy r4
        go_enter Tryz.func57, Tryz.ntmps57
        go_wp2_with (go_at_call 75; go_must (refine NU.mono ?_); rintro e w1 ⟨rfl, rfl⟩)
        go_ret3
        exact ⟨grown_refl _ _, 20, rfl, rfl⟩
      · obtain ⟨u1, u2⟩ := unf_long h.rd.bytes hr hn hs
        have hsi : ¬ (l.length : Int) < (s : Int) + (n : Int) + 4 := by omega
        have hcap : l.length ≤ c ∧ c ≤ 9223372036854775807 := by
          obtain ⟨a', c', e, h1, h2⟩ := h.cap
          injection e with e1 e2 e3
          subst e3
          exact ⟨h1, h2⟩
        have hSV := h.sub s (s + n) (by omega) (by omega)
        have hSH := h.sub 0 (s + n + 4) (Nat.zero_le _) (by omega)
        rw [List.drop_zero, Nat.sub_zero] at hSH
        rw [Nat.add_sub_cancel_left] at hSV
        have hs1 : ∀ w : World, (Instr.slice 39 (.slice a l.length c) (some (.int .i64 s)) (some (.int .i64 ((s : Int) + (n : Int)))) none).run Tryz.prog w = .ok (sliced a s (s + n) c 1) w := by
          intro w
          rw [run_slice_lh (t := 39) (a := a) (len := l.length) (cap := c) (ht := Tryz.underlying39) (kl := .i64) (kh := .i64) (l := (s : Int)) (h := ((s : Int) + (n : Int))) (h0 := by omega) (h1 := by omega) (h2 := by omega)]
          rfl
        have hs2 : ∀ w : World, (Instr.slice 39 (.slice a l.length c) none (some (.int .i64 ((s : Int) + (n : Int) + 4))) none).run Tryz.prog w = .ok (sliced a 0 (s + n + 4) c 1) w := by
          intro w
          rw [run_slice_h (t := 39) (a := a) (len := l.length) (cap := c) (ht := Tryz.underlying39) (kh := .i64) (h := ((s : Int) + (n : Int) + 4)) (h0 := by omega) (h2 := by omega)]
          rfl
        have hYl : ((l.drop s).take n).length = n := by rw [List.length_take, List.length_drop]; omega
        obtain ⟨aV, cV, eV, _, _⟩ := hSV.cap
        have FR : ∀ {w1 : World}, Rd w1 (.slice aV ((l.drop s).take n).length cV) ((l.drop s).take n) → _ := fun {w1} hR => refFrame_ok w1 aV cV ((l.drop s).take n) hR (by rw [hYl]; omega)
        rw [eV, hYl] at hs1 hSV
        rw [hYl] at FR
        obtain ⟨aB, cB, eB', _, _⟩ := hSH.cap
        have hBl : (l.take (s + n + 4)).length = s + n + 4 := by rw [List.length_take]; omega
        rw [eB', hBl] at hs2 hSH
        obtain ⟨q, hq⟩ : ∃ q : Bool, q = decide (Code.frame ((l.drop s).take n) = l.take (s + n + 4)) := ⟨_, rfl⟩
        have hfb : Crc.Bytes (Code.frame ((l.drop s).take n)) := Code.frame_bytes hSV.rd.bytes
        have hse := str_eq hfb hSH.rd.bytes
        rw [← hq] at hse
        have HQ : Hid (q = decide (Code.frame ((l.drop s).take n) = l.take (s + n + 4))) := hq
        have HU1 : Hid (Code.frame ((l.drop s).take n) = l.take (s + n + 4) → Code.unf l = .ok ((l.drop s).take n, s + n + 4)) := u1
        have HU2 : Hid (¬ Code.frame ((l.drop s).take n) = l.take (s + n + 4) → ∃ x, Code.unf l = .error x) := u2
        have HFL : Hid ((Code.frame ((l.drop s).take n)).length ≤ 140737488351232) := by show _ ≤ _; rw [Code.frame_len, hYl]; have := Code.put_len3 (n := n) (by omega); omega
        have HYL : Hid (((l.drop s).take n).length = n) := hYl
        generalize hres : Code.unf l = res at *
        generalize (l.drop s).take n = Y at *
        generalize l.take (s + n + 4) = T at *
        generalize Code.frame Y = FY at *
        have KEY : ∀ {w2 v'}, Own w2 w.heap.size v' FY → w.grownBy w2 none → ∃ af cf nf, v' = .slice af nf cf ∧ (convert 39 9 (.slice af nf cf)).run Tryz.prog w2.drew = .ok (.string (Code.ofB FY)) w2.drew ∧ (convert 39 9 (.slice aB (s + n + 4) cB)).run Tryz.prog w2.drew = .ok (.string (Code.ofB T)) w2.drew := fun {w2 v'} hO hg => by
          have hRd := hO.rd (by have := HFL.out; omega)
          obtain ⟨af, cf, e, _, _⟩ := (hO.sl (by have := HFL.out; omega)).cap
          have g1 : w2.grownBy w2.drew none := grown_drew (grown_refl w2 none)
          refine ⟨af, cf, _, e, ?_, ?_⟩
          · rw [← e]; exact run_string (hRd.next g1)
          · exact run_string ((hSH.rd.next hg).next g1)
        have K2 : ∀ {w2}, w.grownBy w2 none → Rd w2 (.slice aV n cV) Y := fun {w2} hg => hSV.rd.next hg
        have HR0 := hSV.rd
        clear hr r4 u1 u2 hq hfb hSH hYl hBl hres hcap eV eB'
        generalize Code.ofB FY = X1 at *
        generalize Code.ofB T = X2 at *
        have hwr : IntKind.i64.wrap ((s : Int) + (n : Int)) = (s : Int) + (n : Int) := by rw [IntKind.wrap_i64]; omega
        have hwr4 : IntKind.i64.wrap ((s : Int) + (n : Int) + 4) = (s : Int) + (n : Int) + 4 := by rw [IntKind.wrap_i64]; omega
        have hE : ∀ w2 : World, Own (w2.alloc (.cells #[] 5)) w2.heap.size (.slice (some ⟨w2.heap.size, 0, none⟩) 0 0) [] := fun w2 => own_empty w2 w2.heap.size rfl
        cases q with
        | true =>
          have HRE : Hid (res = Except.ok (Y, s + n + 4)) := HU1.out (of_decide_eq_true HQ.out.symm)
          clear HU1 HU2 HQ
          go_enter Tryz.func57, Tryz.ntmps57
          go_wp2_with (first
            | (go_at_call 75; go_must (refine NU.mono ?_); rintro e w1 ⟨rfl, rfl⟩)
            | (go_at_call 34; go_must (refine (FR HR0).mono ?_); rintro e w2 ⟨v', rfl, hO2, hg2⟩; obtain ⟨af, cf, nf, rfl, s1, s2⟩ := KEY hO2 hg2; have hY2 := (K2 hg2).next (grown_alloc (grown_drew (grown_refl w2 none)) (.cells #[] 5)); clear KEY hO2))
          refine region_still (by kernel_rfl) (by kernel_rfl) ?_
          iterate 8 still_step
          refine wpStill_nil ?_
          go_wp2_with (at_builtin; go_must (refine wpList_append_rd rfl (.tmp 47) (.tmp 51) rfl w2.drew.heap.size _ [] rfl (hE w2.drew) _ Y rfl hY2 (by have := HYL.out; simp; omega) (by simp) ?_); intro v3 w3 hO3 hg3; rw [List.nil_append] at hO3)
          go_ret3
          have hz2 := hg2.size
          refine ⟨grown_more (grown_alloc (grown_drew hg2) _) hg3 (fun b e => .inr (by injection e with e; simp at e; omega)), ?_⟩
          rw [HRE.out]
          obtain ⟨a', c', e, _, _⟩ := (hO3.sl (by have := HYL.out; omega)).cap
          subst e
          exact ⟨a', c', by simp, ⟨owns_low hO3.row (by simpa using hz2), hO3.bytes⟩⟩
        | false =>
          obtain ⟨x, hx⟩ := HU2.out (of_decide_eq_false HQ.out.symm)
          have HRE : Hid (res = Except.error x) := hx
          clear HU1 HU2 HQ hx
          go_enter Tryz.func57, Tryz.ntmps57
          go_wp2_with (first
            | (go_at_call 75; go_must (refine NU.mono ?_); rintro e w1 ⟨rfl, rfl⟩)
            | (go_at_call 34; go_must (refine (FR HR0).mono ?_); rintro e w2 ⟨v', rfl, hO2, hg2⟩; obtain ⟨af, cf, nf, rfl, s1, s2⟩ := KEY hO2 hg2; clear KEY hO2))
          refine region_still (by kernel_rfl) (by kernel_rfl) ?_
          iterate 8 still_step
          refine wpStill_nil ?_
          go_wp2
          go_ret3
          refine ⟨grown_drew hg2, ?_⟩
          rw [HRE.out]
          exact ⟨22, rfl, rfl⟩
end Go.Proofs.YtapdhkgeolcogaaGreatDoor.Cd
namespace Go.Proofs.YtapdhkgeolcogaaGreatDoor.Cd
open Go.RowKit
set_option linter.unusedVariables false

def DecR (w w' : World) (r : Except Int (List Code.Fd)) (e : Ending) : Prop :=
  match r with
  | .ok fs => ∃ v', e = .returned (.tuple #[v', .int .i64 0]) ∧ OwnF w' w.heap.size v' fs
  | .error _ => ∃ x : Int, (x == 0) = false ∧ e = .returned (.tuple #[.slice none 0 0, .int .i64 x])
theorem dec_no {l : List Int} {x : Int} (h : Code.rNum l = .error x) : ∃ y, Code.dec [1] l = .error y := by
  unfold Code.dec Code.rField
  rw [h]
  exact ⟨_, rfl⟩
theorem dec_big {l : List Int} {n s : Nat} (h : Code.rNum l = .ok (n, s)) (hn : 9223372036854775807 < n) : ∃ y, Code.dec [1] l = .error y := by
  unfold Code.dec Code.rField
  rw [h]
  simp only [if_true]
  rw [if_pos hn]
  exact ⟨_, rfl⟩
theorem dec_is {l : List Int} {n s : Nat} (h : Code.rNum l = .ok (n, s)) (hn : ¬ 9223372036854775807 < n) : Code.dec [1] l = if l.drop s = [] then .ok [⟨1, n, Code.ofB []⟩] else .error 21 := by
  unfold Code.dec Code.rField
  rw [h]
  simp only [if_true]
  rw [if_neg hn]
  simp only [Code.dec]
  split <;> rfl

set_option maxRecDepth 100000 in
set_option maxHeartbeats 3200000 in
theorem refDec_one (kb : Nat) (a : Option Addr) (c : Nat) (l : List Int) (w : World) (hk : w.cell? ⟨kb, 0, none⟩ = some (.int .i64 1)) (h : Rd w (.slice a l.length c) l) (hl : l.length ≤ 2000000) :
    Calls Tryz.prog 58 #[.slice (some ⟨kb, 0, none⟩) 1 1, .slice a l.length c] w fun e w' => w.grownBy w' none ∧ DecR w w' (Code.dec [1] l) e := by
  have NU : ∀ o, Calls Tryz.prog 75 #[.slice a l.length c, .int .i64 0] (w.alloc o) fun e w' => w' = w.alloc o ∧ NumOut (Code.rNum l) e := fun o => refNum_any (.slice a l.length c) l _ (h.next (World.grownBy_alloc w o none)) (by omega)
  cases hr : Code.rNum l with
  | error x =>
    rw [hr] at NU
    obtain ⟨y, hy⟩ := dec_no hr
    rw [hy]
    clear hr hy
    go_enter Tryz.func58, Tryz.ntmps58
    go_wp2
    go_loopw [6, 7, 8] (fun v q i wr => v = .slice none 0 0 ∧ q = .int .i64 0 ∧ i = .int .i64 0 ∧ wr = w) (fun _ _ _ _ => 0)
    case atStart => exact ⟨rfl, rfl, rfl, rfl⟩
    case round =>
      obtain ⟨rfl, rfl, rfl, rfl⟩ := hrel
      go_wp2_with (go_at_call 75; go_must (refine (NU _).mono ?_); rintro e w1 ⟨rfl, z, hz, rfl⟩)
      go_ret2
      exact ⟨World.grownBy_alloc _ _ none, z, hz, rfl⟩
  | ok p =>
    obtain ⟨n, s⟩ := p
    rw [hr] at NU
    obtain ⟨r1, r2, r3, r4⟩ := Code.rNum_ok h.bytes hr
    by_cases hn : 9223372036854775807 < n
    · obtain ⟨y, hy⟩ := dec_big hr hn
      rw [hy]
      have hni : (9223372036854775807 : Int) < (n : Int) := by omega
      clear hr hy r4
      go_enter Tryz.func58, Tryz.ntmps58
      go_wp2
      go_loopw [6, 7, 8] (fun v q i wr => v = .slice none 0 0 ∧ q = .int .i64 0 ∧ i = .int .i64 0 ∧ wr = w) (fun _ _ _ _ => 0)
      case atStart => exact ⟨rfl, rfl, rfl, rfl⟩
      case round =>
        obtain ⟨rfl, rfl, rfl, rfl⟩ := hrel
        go_wp2_with (go_at_call 75; go_must (refine (NU _).mono ?_); rintro e w1 ⟨rfl, rfl⟩)
        go_ret2
        exact ⟨World.grownBy_alloc _ _ none, 21, rfl, rfl⟩
    · have hni : ¬ (9223372036854775807 : Int) < (n : Int) := by omega
      have hcv : IntKind.i64.wrap (n : Int) = (n : Int) := by rw [IntKind.wrap_i64]; omega
      have HD : Hid (Code.dec [1] l = if l.drop s = [] then .ok [⟨1, n, Code.ofB []⟩] else .error 21) := dec_is hr hn
      have HS : Hid (l.drop s = [] ↔ ¬ s < l.length) := by
        show _ ↔ _
        rw [List.drop_eq_nil_iff]
        omega
      generalize Code.dec [1] l = res at *
      clear hr r4
      go_enter Tryz.func58, Tryz.ntmps58
      go_wp2
      go_loopw [6, 7, 8] (fun v q i wr => (v = .slice none 0 0 ∧ q = .int .i64 0 ∧ i = .int .i64 0 ∧ wr = w) ∨ (q = .int .i64 s ∧ i = .int .i64 1 ∧ OwnF wr w.heap.size v [⟨1, n, Code.ofB []⟩] ∧ w.grownBy wr none)) (fun _ _ i _ => 1 - (intOf i).toNat)
      case atStart => exact .inl ⟨rfl, rfl, rfl, rfl⟩
      case round =>
        rcases hrel with ⟨rfl, rfl, rfl, rfl⟩ | ⟨rfl, rfl, hO, hg⟩
        · have hN0 : ∀ W : World, OwnF W wr.heap.size (.slice none 0 0) [] := fun W => World.ownsRow_nil W _ _ _
          go_wp2_with (first
            | (go_at_call 75; go_must (refine (NU _).mono ?_); rintro e w1 ⟨rfl, rfl⟩)
            | (at_builtin; go_must (refine wpList_append_field rfl (.tmp 90) (.tmp 92) rfl wr.heap.size (.slice none 0 0) [] rfl (hN0 _) ⟨1, n, Code.ofB []⟩ rfl (by simp) (by simp) (by simp) ?_); intro v2 w2 hO2 hg2))
          go_roundw
          case rel => exact .inr ⟨rfl, rfl, hO2, by
            exact grown_more (World.grownBy_alloc wr _ none) hg2 (fun b e => by simp [Value.ownBlock] at e)⟩
          case measure => simp [intOf]
        · by_cases hs : s < l.length
          · have hsi : (s : Int) < (l.length : Int) := by omega
            have hne := HS.out
            go_wp2
            go_ret2
            refine ⟨hg, ?_⟩
            rw [HD.out, if_neg (fun e => (hne.1 e) hs)]
            exact ⟨21, rfl, rfl⟩
          · have hsi : ¬ (s : Int) < (l.length : Int) := by omega
            have hne := HS.out
            go_wp2
            go_ret2
            refine ⟨hg, ?_⟩
            rw [HD.out, if_pos (hne.2 hs)]
            exact ⟨_, rfl, hO⟩
end Go.Proofs.YtapdhkgeolcogaaGreatDoor.Cd
