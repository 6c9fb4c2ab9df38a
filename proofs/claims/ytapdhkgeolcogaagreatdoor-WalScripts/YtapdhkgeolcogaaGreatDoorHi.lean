/- The reference's names. The reference's numbers. The reference's reading of a file. -/
import Derived.Test.YtapdhkgeolcogaaGreatDoorHd
import Derived.Test.YtapdhkgeolcogaaGreatDoorHh
namespace Go.Proofs.YtapdhkgeolcogaaGreatDoor
open Go.RowKit Dsk Lg
set_option linter.unusedVariables false

def dgs (n : Nat) : By := if n = 0 then [] else Lib.decDigits n
theorem dgs_step {n : Nat} (h : 1 ≤ n) : dgs n = dgs (n / 10) ++ [UInt8.ofNat (48 + n % 10)] := by
  unfold dgs
  rw [if_neg (by omega), Lib.decDigits]
  by_cases h10 : n < 10
  · rw [dif_pos h10, if_pos (by omega), Nat.mod_eq_of_lt h10]
    rfl
  · rw [dif_neg h10, if_neg (by omega)]
theorem str_cat (a b : By) : (⟨a.toArray⟩ : ByteArray) ++ ⟨b.toArray⟩ = ⟨(a ++ b).toArray⟩ := by
  show ByteArray.append _ _ = _
  simp [ByteArray.append]
set_option maxRecDepth 100000 in
set_option maxHeartbeats 1600000 in
theorem rdigits_any (N : Nat) (hN : N ≤ 1000000000000) (w : World) : Calls Tryz.prog 52 #[.int .i64 (N : Int)] w fun e w' => e = .returned (.string ⟨(dgs N).toArray⟩) ∧ w.grownBy w' none := by
  go_enter Tryz.func52, Tryz.ntmps52
  go_wp2
  go_loopw [0, 3] (fun n s wr => ∃ (m : Nat) (acc : By), m ≤ N ∧ n = .int .i64 (m : Int) ∧ s = .string ⟨acc.toArray⟩ ∧ Hid (dgs N = dgs m ++ acc) ∧ w.grownBy wr none) (fun n _ _ => (intOf n).toNat)
  case atStart => exact ⟨N, [], Nat.le_refl _, rfl, rfl, by show _ = _; simp, grown_refl _ _⟩
  case round =>
    obtain ⟨m, acc, hm, rfl, rfl, HA, hg⟩ := hrel
    by_cases h0 : m = 0
    · subst h0
      go_wp2
      go_ret
      refine ⟨?_, hg⟩
      rw [HA.out]
      simp [dgs]
    · have hpi : (0 : Int) < (m : Int) := by omega
      have htm : (m : Int).tmod 10 = ((m % 10 : Nat) : Int) := by rw [Int.tmod_eq_emod_of_nonneg (by omega)]; omega
      have htd : (m : Int).tdiv 10 = ((m / 10 : Nat) : Int) := by rw [Int.tdiv_eq_ediv_of_nonneg (by omega)]; omega
      obtain ⟨d, hd⟩ : ∃ d, d = m % 10 := ⟨_, rfl⟩
      have hd10 : d < 10 := by omega
      have HST : Hid (dgs m = dgs (m / 10) ++ [UInt8.ofNat (48 + d)]) := by rw [hd]; exact dgs_step (by omega)
      have hwu : IntKind.u8.wrap (48 + (d : Int)) = 48 + (d : Int) := by rw [IntKind.wrap_u8]; omega
      have hby : ((UInt8.ofNat (48 + d)).toNat : Int) = 48 + (d : Int) := by rw [UInt8.toNat_ofNat_of_lt' (by show _ < 256; omega)]; omega
      have hcv : ∀ o, o = Obj.cells #[.int .u8 (48 + (d : Int))] 5 → (convert 39 9 (.slice (some ⟨wr.heap.size, 0, none⟩) 1 1)).run Tryz.prog (wr.alloc o) = .ok (.string ⟨[UInt8.ofNat (48 + d)].toArray⟩) (wr.alloc o) := fun o ho => run_string (l := [UInt8.ofNat (48 + d)]) (Elm.rx_one fun j u hu => by
        match j, hu with
        | 0, hu => injection hu with hu; rw [← hu, ho]; rw [hby]; exact new_at wr rfl rfl)
      have hcv' := hcv _ rfl
      rw [← hd] at htm
      clear hcv hby hd
      generalize UInt8.ofNat (48 + d) = cc at *
      have hcat := str_cat [cc] acc
      have hXs : (⟨[cc].toArray⟩ : ByteArray).size = 1 := rfl
      have hal : acc.length ≤ 1000 := by
        have h1 := congrArg List.length HA.out
        have h2 : (dgs N).length ≤ 13 := by
          unfold dgs
          split
          · simp
          · exact dec_len 12 N (by omega)
        rw [List.length_append] at h1
        omega
      have hno : ¬ 9223372036854775807 < 1 + acc.length := by omega
      generalize (⟨[cc].toArray⟩ : ByteArray) = X at *
      go_wp2
      refine ⟨⟨m / 10, cc :: acc, by omega, by go_num, rfl, ?_, grown_alloc hg _⟩, ?_⟩
      · show _ = _
        rw [HA.out, HST.out]
        simp
      · simp [intOf]; omega
theorem nm_dgs {n : Nat} (h : 1 ≤ n) : nm n = pre ++ dgs n := by
  unfold nm dgs
  rw [if_neg (by omega)]
set_option maxRecDepth 100000 in
set_option maxHeartbeats 1600000 in
theorem rname_any (n : Nat) (h1 : 1 ≤ n) (hn : n ≤ 1000000000000) (w : World) : Calls Tryz.prog 26 #[.int .i64 (n : Int)] w fun e w' => e = .returned (.string ⟨(nm n).toArray⟩) ∧ w.grownBy w' none := by
  have DG := rdigits_any n hn w
  have hcat := str_cat pre (dgs n)
  have hl : (dgs n).length ≤ 13 := by
    unfold dgs
    rw [if_neg (by omega)]
    exact dec_len 12 n (by omega)
  rw [nm_dgs h1]
  have hno : ¬ 9223372036854775807 < 4 + (dgs n).length := by omega
  have HC : Hid ((⟨pre.toArray⟩ : ByteArray) ++ ⟨(dgs n).toArray⟩ = ⟨(pre ++ dgs n).toArray⟩) := hcat
  clear hcat
  generalize dgs n = D at *
  go_enter Tryz.func26, Tryz.ntmps26
  go_wp2_with (go_at_call 52; (with_reducible refine DG.mono ?_); rintro e w1 ⟨rfl, hg1⟩)
  go_ret
  exact ⟨by rw [← HC.out]; rfl, hg1⟩
end Go.Proofs.YtapdhkgeolcogaaGreatDoor
namespace Go.Proofs.YtapdhkgeolcogaaGreatDoor
open Go.RowKit Dsk Lg
set_option linter.unusedVariables false

def vl (ds : By) : Nat := ds.foldl (fun n c => 10 * n + c.toNat - 48) 0
def Dg (c : UInt8) : Prop := 48 ≤ c.toNat ∧ c.toNat ≤ 57
theorem vl_snoc (ds : By) (c : UInt8) : vl (ds ++ [c]) = 10 * vl ds + c.toNat - 48 := by simp [vl]
theorem vl_lt : ∀ (k : Nat) (ds : By), ds.length = k → (∀ c ∈ ds, Dg c) → vl ds < 10 ^ k
  | 0, ds, h, _ => by
    have : ds = [] := List.length_eq_zero_iff.1 h
    subst this
    simp [vl]
  | k + 1, ds, h, hd => by
    rcases List.eq_nil_or_concat ds with rfl | ⟨ds', c, rfl⟩
    · simp at h
    · rw [List.concat_eq_append] at h hd ⊢
      have h1 := vl_lt k ds' (by simpa using h) (fun x hx => hd x (by simp [hx]))
      have h2 := hd c (by simp)
      unfold Dg at h2
      rw [vl_snoc, Nat.pow_succ]
      omega
theorem dec_vl : ∀ (k : Nat) (ds : By), ds.length = k + 1 → (∀ c ∈ ds, Dg c) → ds.head? ≠ some 48 → Lib.decDigits (vl ds) = ds ∧ 1 ≤ vl ds
  | 0, ds, h, hd, h0 => by
    obtain ⟨c, rfl⟩ := List.length_eq_one_iff.1 h
    have h2 := hd c (by simp)
    unfold Dg at h2
    have hv : vl [c] = c.toNat - 48 := by simp [vl]
    have hne : c.toNat ≠ 48 := fun e => h0 (by simp; exact UInt8.toNat_inj.1 e)
    rw [hv]
    refine ⟨?_, by omega⟩
    rw [Lib.decDigits_one (by omega), show 48 + (c.toNat - 48) = c.toNat by omega]
    simp
  | k + 1, ds, h, hd, h0 => by
    rcases List.eq_nil_or_concat ds with rfl | ⟨ds', c, rfl⟩
    · simp at h
    · rw [List.concat_eq_append] at h hd h0 ⊢
      have hl : ds'.length = k + 1 := by simpa using h
      have hh : ds'.head? ≠ some 48 := by
        cases ds' with
        | nil => simp at hl
        | cons x r => simpa using h0
      obtain ⟨h1, h3⟩ := dec_vl k ds' hl (fun x hx => hd x (by simp [hx])) hh
      have h2 := hd c (by simp)
      unfold Dg at h2
      rw [vl_snoc]
      refine ⟨?_, by omega⟩
      rw [Lib.decDigits, dif_neg (by omega), show (10 * vl ds' + c.toNat - 48) / 10 = vl ds' by omega, show 48 + (10 * vl ds' + c.toNat - 48) % 10 = c.toNat by omega, h1]
      simp
theorem dec_digits : ∀ (n : Nat), (∀ c ∈ Lib.decDigits n, Dg c) ∧ (1 ≤ n → (Lib.decDigits n).head? ≠ some 48) := by
  intro n
  induction n using Nat.strongRecOn with
  | _ n ih =>
    rw [Lib.decDigits]
    by_cases h : n < 10
    · rw [dif_pos h]
      refine ⟨fun c hc => ?_, fun h1 => ?_⟩
      · simp at hc
        subst hc
        unfold Dg
        rw [UInt8.toNat_add, UInt8.toNat_ofNat_of_lt' (by show _ < 256; omega)]
        simp
        omega
      · simp
        intro e
        have := congrArg UInt8.toNat e
        rw [UInt8.toNat_ofNat_of_lt' (by show _ < 256; omega)] at this
        simp at this
        omega
    · rw [dif_neg h]
      obtain ⟨i1, i2⟩ := ih (n / 10) (by omega)
      refine ⟨fun c hc => ?_, fun h1 => ?_⟩
      · rcases List.mem_append.1 hc with e | e
        · exact i1 c e
        · simp at e
          subst e
          unfold Dg
          rw [UInt8.toNat_add, UInt8.toNat_ofNat_of_lt' (by show _ < 256; omega)]
          simp
          omega
      · have hp := dec_pos (n / 10)
        cases hq : Lib.decDigits (n / 10) with
        | nil => rw [hq] at hp; simp at hp
        | cons x r =>
          have := i2 (by omega)
          rw [hq] at this
          simpa using this
/-- What a name of a log is like. -/
structure Like (s : By) : Prop where
  l5 : 5 ≤ s.length
  l13 : s.length ≤ 13
  pr : s.take 4 = pre
  hd : s.getD 4 0 ≠ 48
  dg : ∀ c ∈ s.drop 4, Dg c
theorem like_of {s : By} {n : Nat} (h : nOf s = some n) : Like s := by
  obtain ⟨h1, h2, rfl⟩ := nOf_some h
  obtain ⟨d1, d2⟩ := dec_digits n
  have hp := dec_pos n
  have hl := dec_len 8 n (by omega)
  have hpl : pre.length = 4 := rfl
  refine ⟨by unfold nm; rw [List.length_append]; omega, by unfold nm; rw [List.length_append]; omega, by unfold nm; rw [← hpl, List.take_left], ?_, by unfold nm; rw [← hpl, List.drop_left]; exact d1⟩
  have h3 := d2 h1
  unfold nm
  cases hq : Lib.decDigits n with
  | nil => rw [hq] at hp; simp at hp
  | cons x r =>
    rw [hq] at h3
    simpa [pre] using h3
theorem of_like {s : By} (h : Like s) : nOf s = some (vl (s.drop 4)) := by
  have hs : s = pre ++ s.drop 4 := by rw [← h.pr, List.take_append_drop]
  have hlen : (s.drop 4).length = (s.length - 5) + 1 := by rw [List.length_drop]; have := h.l5; omega
  have hh : (s.drop 4).head? ≠ some 48 := by
    have h1 := h.hd
    have h5 := h.l5
    rw [List.head?_drop, List.getElem?_eq_getElem (by omega)]
    intro e
    injection e with e
    apply h1
    rw [← e]
    simp [show 4 < s.length by omega]
  obtain ⟨h1, h2⟩ := dec_vl _ _ hlen h.dg hh
  have h3 := vl_lt _ _ rfl h.dg
  have h4 : vl (s.drop 4) < 10 ^ 9 := Nat.lt_of_lt_of_le h3 (Nat.pow_le_pow_right (by decide) (by rw [List.length_drop]; have := h.l13; omega))
  have e : s = nm (vl (s.drop 4)) := by
    unfold nm
    rw [h1]
    exact hs
  have := nOf_nm (n := vl (s.drop 4)) h2 (by omega)
  rw [← e] at this
  exact this
set_option maxRecDepth 100000 in
set_option maxHeartbeats 3200000 in
theorem rnumber_any (s : By) (hs : s.length ≤ 9223372036854775807) (w : World) : Calls Tryz.prog 30 #[.string ⟨s.toArray⟩] w fun e w' => e = .returned (.int .i64 (((nOf s).getD 0 : Nat) : Int)) ∧ w' = w := by
  have hno : ¬ Like s → ((nOf s).getD 0) = 0 := fun h => by
    cases hq : nOf s with
    | none => rfl
    | some n => exact absurd (like_of hq) h
  have hex := ba_take s 4
  by_cases h5 : s.length < 5
  · rw [hno (fun h => by have := h.l5; omega)]
    have h5i : (s.length : Int) < 5 := by omega
    clear hno hex
    go_enter Tryz.func30, Tryz.ntmps30
    go_wp2
    go_ret
    exact ⟨rfl, rfl⟩
  · have h5i : ¬ (s.length : Int) < 5 := by omega
    by_cases h13 : 13 < s.length
    · rw [hno (fun h => by have := h.l13; omega)]
      have h13i : (13 : Int) < (s.length : Int) := by omega
      clear hno hex
      go_enter Tryz.func30, Tryz.ntmps30
      go_wp2
      go_ret
      exact ⟨rfl, rfl⟩
    · have h13i : ¬ (13 : Int) < (s.length : Int) := by omega
      have h4i : (4 : Int) ≤ (s.length : Int) := by omega
      by_cases hp : s.take 4 = pre
      · have hpb : (s.take 4 == [108, 111, 103, 45]) = true := by rw [hp]; rfl
        have IX : ∀ (k : Nat) (hk : k < s.length) (c : Int), c = ((s.getD k 0).toNat : Int) → (Instr.index 9 (.string ⟨s.toArray⟩) (.int .i64 (k : Int))).run Tryz.prog w = .ok (.int .u8 c) w := fun k hk c hc => by
          have e : (s.getD k 0) = (⟨s.toArray⟩ : ByteArray)[k]'(by simpa [ByteArray.size] using hk) := by
            rw [show (⟨s.toArray⟩ : ByteArray)[k]'(by simpa [ByteArray.size] using hk) = s.toArray[k]'(by simpa using hk) from rfl]
            simp [hk]
          rw [hc, e]
          have h0 : 0 ≤ (k : Int) := by omega
          have hkz : k < (⟨s.toArray⟩ : ByteArray).size := by simpa [ByteArray.size] using hk
          go_simp
        have IX4 := IX 4 (by omega) _ rfl
        by_cases h0 : s.getD 4 0 = 48
        · rw [hno (fun h => h.hd h0)]
          rw [h0] at IX4
          have IX4' : (Instr.index 9 (.string ⟨s.toArray⟩) (.int .i64 4)).run Tryz.prog w = .ok (.int .u8 48) w := IX4
          clear hno hp IX IX4 h0
          go_enter Tryz.func30, Tryz.ntmps30
          go_wp2
          go_ret
          exact ⟨rfl, rfl⟩
        · have hc4 : (((s.getD 4 0).toNat : Int) == 48) = false := by
            rw [beq_eq_false_iff_ne]
            intro e
            have e2 : (s.getD 4 0).toNat = 48 := by omega
            exact h0 (UInt8.toNat_inj.1 e2)
          have IX4' : (Instr.index 9 (.string ⟨s.toArray⟩) (.int .i64 4)).run Tryz.prog w = .ok (.int .u8 ((s.getD 4 0).toNat : Int)) w := IX4
          have HNO : Hid (¬ Like s → ((nOf s).getD 0) = 0) := hno
          have HLK : Hid ((∀ c ∈ s.drop 4, Dg c) → nOf s = some (vl (s.drop 4))) := fun hd => of_like ⟨by omega, by omega, hp, h0, hd⟩
          have HIX : Hid (∀ (k : Nat) (hk : k < s.length) (c : Int), c = ((s.getD k 0).toNat : Int) → (Instr.index 9 (.string ⟨s.toArray⟩) (.int .i64 (k : Int))).run Tryz.prog w = .ok (.int .u8 c) w) := IX
          generalize ((s.getD 4 0).toNat : Int) = c4 at *
          clear hno hp IX IX4 h0
          go_enter Tryz.func30, Tryz.ntmps30
          go_wp2
          clear hc4 IX4' hex hpb
          go_loop [3, 4] (fun n i => ∃ k : Nat, 4 ≤ k ∧ k ≤ s.length ∧ i = .int .i64 (k : Int) ∧ n = .int .i64 (vl ((s.drop 4).take (k - 4)) : Int) ∧ Hid (∀ c ∈ (s.drop 4).take (k - 4), Dg c)) (fun _ i => s.length - (intOf i).toNat)
          case atStart => exact ⟨4, by omega, by omega, rfl, rfl, by show ∀ c ∈ _, _; simp⟩
          case round =>
            obtain ⟨k, hk4, hk, rfl, rfl, HD⟩ := hrel
            obtain ⟨j, hj⟩ : ∃ j, j = k - 4 := ⟨_, rfl⟩
            rw [← hj] at HD ⊢
            have hv : vl ((s.drop 4).take j) < 10 ^ 9 := Nat.lt_of_lt_of_le (vl_lt _ _ rfl HD.out) (Nat.pow_le_pow_right (by decide) (by rw [List.length_take, List.length_drop]; omega))
            by_cases hlt : k < s.length
            · have hlti : (k : Int) < (s.length : Int) := by omega
              have hkj : 4 + j = k := by omega
              have hjd : (s.drop 4)[j]? = some (s.getD k 0) := by rw [List.getElem?_drop, hkj]; simp [hlt]
              have HSN : Hid ((s.drop 4).take (j + 1) = (s.drop 4).take j ++ [s.getD k 0]) := by show _ = _; rw [List.take_add_one, hjd]; rfl
              have hix := HIX.out k hlt _ rfl
              have HIN : Hid (s.getD k 0 ∈ s.drop 4) := List.mem_of_getElem? hjd
              clear hjd
              generalize s.getD k 0 = c at *
              have hcl := c.toNat_lt
              by_cases hdg : Dg c
              · have hdg' := hdg
                unfold Dg at hdg'
                have d1 : ¬ (c.toNat : Int) < 48 := by omega
                have d2 : ¬ (57 : Int) < (c.toNat : Int) := by omega
                have HN : Hid (vl ((s.drop 4).take (j + 1)) = 10 * vl ((s.drop 4).take j) + c.toNat - 48) := by show _ = _; rw [HSN.out, vl_snoc]
                have HD2 : Hid (∀ x ∈ (s.drop 4).take (j + 1), Dg x) := by
                  show ∀ x ∈ _, _
                  rw [HSN.out]
                  intro x hx
                  rcases List.mem_append.1 hx with e | e
                  · exact HD.out x e
                  · simp at e; rw [e]; exact hdg
                generalize vl ((s.drop 4).take j) = V at *
                generalize c.toNat = C at *
                clear hdg HIN HSN
                go_wp2
                go_round
                case rel => exact ⟨k + 1, by omega, by omega, by go_num, by rw [show k + 1 - 4 = j + 1 by omega, HN.out]; go_num, by rw [show k + 1 - 4 = j + 1 by omega]; exact HD2⟩
                case measure => simp [intOf]; omega
              · have HZ : Hid (((nOf s).getD 0) = 0) := HNO.out fun h => hdg (h.dg c HIN.out)
                unfold Dg at hdg
                generalize c.toNat = C at *
                clear HIN HSN hv
                by_cases d1 : C < 48
                · have d1i : (C : Int) < 48 := by omega
                  go_wp2
                  go_ret
                  exact ⟨by rw [HZ.out]; rfl, rfl⟩
                · have d1i : ¬ (C : Int) < 48 := by omega
                  have d2i : (57 : Int) < (C : Int) := by omega
                  go_wp2
                  go_ret
                  exact ⟨by rw [HZ.out]; rfl, rfl⟩
            · have hlti : ¬ (k : Int) < (s.length : Int) := by omega
              have hfull : (s.drop 4).take j = s.drop 4 := List.take_of_length_le (by rw [List.length_drop]; omega)
              have HZ : Hid (((nOf s).getD 0) = vl ((s.drop 4).take j)) := by
                show _ = _
                rw [HLK.out (by rw [← hfull]; exact HD.out), hfull]
                rfl
              generalize vl ((s.drop 4).take j) = V at *
              clear hfull
              go_wp2
              go_ret
              exact ⟨by rw [HZ.out]; rfl, rfl⟩
      · rw [hno (fun h => hp h.pr)]
        have hpb : (s.take 4 == [108, 111, 103, 45]) = false := by simpa [pre] using hp
        clear hno hp
        go_enter Tryz.func30, Tryz.ntmps30
        go_wp2
        go_ret
        exact ⟨rfl, rfl⟩
end Go.Proofs.YtapdhkgeolcogaaGreatDoor
namespace Go.Proofs.YtapdhkgeolcogaaGreatDoor
open Go.RowKit Dsk Lg
set_option linter.unusedVariables false

theorem runf_none {a : Option Addr} {c : Nat} {l : By} {w : World} (h : Cd.Sl w (.slice a l.length c) (bI l)) (hl : l.length ≤ 2000000) (hu : un l = none) :
    Calls Tryz.prog 57 #[.slice a l.length c] w fun e w' => ∃ x, (x == 0) = false ∧ e = .returned (.tuple #[.slice none 0 0, .int .i64 0, .int .i64 x]) ∧ w.grownBy w' none := by
  have hb := bI_len l
  have U := Cd.refUnf_any a c (bI l) w (by rw [hb]; exact h) (by rw [hb]; exact hl)
  rw [hb] at U
  refine U.mono fun e w' ⟨h1, h2⟩ => ?_
  unfold un at hu
  cases hf : Cd.Code.unf (bI l) with
  | ok p => rw [hf] at hu; cases hu
  | error x =>
    rw [hf] at h2
    obtain ⟨y, h3, h4⟩ := h2
    exact ⟨y, h3, h4, h1⟩
theorem runf_some {a : Option Addr} {c : Nat} {l y : By} {m : Nat} {w : World} (h : Cd.Sl w (.slice a l.length c) (bI l)) (hl : l.length ≤ 2000000) (hu : un l = some (y, m)) :
    Calls Tryz.prog 57 #[.slice a l.length c] w fun e w' => ∃ a' c', e = .returned (.tuple #[.slice a' y.length c', .int .i64 m, .int .i64 0]) ∧ eB.Own w' w.heap.size (.slice a' y.length c') y ∧ w.grownBy w' none := by
  have hb := bI_len l
  have U := Cd.refUnf_any a c (bI l) w (by rw [hb]; exact h) (by rw [hb]; exact hl)
  rw [hb] at U
  refine U.mono fun e w' ⟨h1, h2⟩ => ?_
  unfold un at hu
  cases hf : Cd.Code.unf (bI l) with
  | error x => rw [hf] at hu; cases hu
  | ok p =>
    obtain ⟨z, k⟩ := p
    rw [hf] at hu h2
    simp only [Option.some.injEq, Prod.mk.injEq] at hu
    obtain ⟨rfl, rfl⟩ := hu
    obtain ⟨a', c', he, ho⟩ := h2
    have := cd_own ho
    refine ⟨a', c', ?_, ?_, h1⟩
    · rw [iB_len]; exact he
    · rw [iB_len]; exact this
/-- The head's number. -/
theorem rdec_none {hd : By} (hl : hd.length ≤ 2000000) (hN : hdN hd = none) {a' : Option Addr} {c' B0 : Nat} {w2 : World} (ho : eB.Own w2 B0 (.slice a' hd.length c') hd) :
    Calls Tryz.prog 58 #[.slice (some ⟨w2.heap.size, 0, none⟩) 1 1, .slice a' hd.length c'] (w2.alloc (.cells #[.int .i64 1] 3)) fun e w' => ∃ x, (x == 0) = false ∧ e = .returned (.tuple #[.slice none 0 0, .int .i64 x]) ∧ w2.grownBy w' none := by
  have hb := bI_len hd
  have D := Cd.refDec_one w2.heap.size a' c' (bI hd) (w2.alloc (.cells #[.int .i64 1] 3)) (new_at w2 rfl rfl) (by rw [hb]; exact ((own_cd (ho.grown (World.grownBy_alloc w2 _ none))).sl (by rw [bI_len]; omega)).rd) (by rw [hb]; exact hl)
  rw [hb] at D
  refine D.mono fun e w' ⟨h1, h2⟩ => ?_
  rcases dec_one (bI hd) with ⟨f, hf⟩ | ⟨x, hx⟩
  · unfold hdN at hN
    rw [hf] at hN
    cases hN
  · rw [hx] at h2
    obtain ⟨y, h3, h4⟩ := h2
    exact ⟨y, h3, h4, grown_more (World.grownBy_alloc w2 _ none) h1 (by simp)⟩
theorem rdec_some {hd : By} (hl : hd.length ≤ 2000000) {n : Int} (hN : hdN hd = some n) {a' : Option Addr} {c' B0 : Nat} {w2 : World} (ho : eB.Own w2 B0 (.slice a' hd.length c') hd) :
    Calls Tryz.prog 58 #[.slice (some ⟨w2.heap.size, 0, none⟩) 1 1, .slice a' hd.length c'] (w2.alloc (.cells #[.int .i64 1] 3)) fun e w' => ∃ g c, e = .returned (.tuple #[.slice (some ⟨g, 0, none⟩) 1 c, .int .i64 0]) ∧ w'.cell? ⟨g, 1, none⟩ = some (.int .i64 n) ∧ w2.grownBy w' none := by
  have hb := bI_len hd
  have D := Cd.refDec_one w2.heap.size a' c' (bI hd) (w2.alloc (.cells #[.int .i64 1] 3)) (new_at w2 rfl rfl) (by rw [hb]; exact ((own_cd (ho.grown (World.grownBy_alloc w2 _ none))).sl (by rw [bI_len]; omega)).rd) (by rw [hb]; exact hl)
  rw [hb] at D
  refine D.mono fun e w' ⟨h1, h2⟩ => ?_
  rcases dec_one (bI hd) with ⟨f, hf⟩ | ⟨x, hx⟩
  · unfold hdN at hN
    rw [hf] at hN h2
    injection hN with hN
    obtain ⟨v', he, ho'⟩ := h2
    obtain ⟨g, c, rfl, hc⟩ := ownF_one ho'
    rw [hN] at hc
    exact ⟨g, c, he, hc, grown_more (World.grownBy_alloc w2 _ none) h1 (by simp)⟩
  · unfold hdN at hN
    rw [hx] at hN
    cases hN
theorem box3 {w w2 : World} {v0 v1 v2 : Value} {t : TypeId} (g : (w.alloc (.cells #[v0, v1, v2] t)).grownBy w2 none) : w2.cell? ⟨w.heap.size, 0, none⟩ = some v0 ∧ w2.cell? ⟨w.heap.size, 1, none⟩ = some v1 ∧ w2.cell? ⟨w.heap.size, 2, none⟩ = some v2 ∧ (∀ i, w2.frozen? ⟨w.heap.size, i, none⟩ = false) ∧ w.heap.size < w2.heap.size := by
  have hz : w.heap.size < (w.alloc (.cells #[v0, v1, v2] t)).heap.size := by simp
  refine ⟨g.cell (new_at w rfl rfl) (by simp), g.cell (new_at w rfl rfl) (by simp), g.cell (new_at w rfl rfl) (by simp), fun i => ?_, Nat.lt_of_lt_of_le hz g.size⟩
  rw [(Chg.of (F := fun _ => False) g (by simp)).frozen (a := ⟨w.heap.size, i, none⟩) hz id]
  exact World.frozen?_alloc_new _ _ _ _
theorem sets3 {w2 : World} {q : Nat} {v0 v1 v2 : Value} (b0 : w2.cell? ⟨q, 0, none⟩ = some v0) (b1 : w2.cell? ⟨q, 1, none⟩ = some v1) (b2 : w2.cell? ⟨q, 2, none⟩ = some v2) (u0 u1 u2 : Value) :
    (w2.setCell ⟨q, 0, none⟩ u0).cell? ⟨q, 0, none⟩ = some u0 ∧ ((w2.setCell ⟨q, 0, none⟩ u0).setCell ⟨q, 1, none⟩ u1).cell? ⟨q, 1, none⟩ = some u1 ∧ (((w2.setCell ⟨q, 0, none⟩ u0).setCell ⟨q, 1, none⟩ u1).setCell ⟨q, 2, none⟩ u2).cell? ⟨q, 2, none⟩ = some u2 := by
  refine ⟨set_same b0, set_same (u := v1) ?_, set_same (u := v2) ?_⟩
  · rw [set_other (by simp)]; exact b1
  · rw [set_other (by simp), set_other (by simp)]; exact b2
theorem grown_sets {w w2 : World} (g : w.grownBy w2 none) {q : Nat} (hq : w.heap.size ≤ q) (i j k : Nat) (u0 u1 u2 : Value) : w.grownBy (((w2.setCell ⟨q, i, none⟩ u0).setCell ⟨q, j, none⟩ u1).setCell ⟨q, k, none⟩ u2) none :=
  grown_more (grown_more (grown_more g (grown_set _ _ _) (fun b e => .inr (by injection e with e; rw [← e]; exact hq))) (grown_set _ _ _) (fun b e => .inr (by injection e with e; rw [← e]; exact hq))) (grown_set _ _ _) (fun b e => .inr (by injection e with e; rw [← e]; exact hq))
theorem Gat.kept {w wr w2 : World} {v : Value} {done : List By} {F : Nat → Prop} (h : Gat w wr v done) (g : Chg F wr w2) (hF : ∀ k, F k → k < w.heap.size) : Gat w w2 v done := by
  have h' : Ro wr w.heap.size v done (fun k => w.heap.size ≤ k ∧ k < wr.heap.size ∧ v.ownBlock ≠ some k) := h
  exact (h'.kept g (fun k hk e => by have := (h'.lt k hk).1; have := hF k e; omega) fun k hk e => by have := hF k e; omega).wide fun k hk => ⟨hk.1, Nat.lt_of_lt_of_le hk.2.1 g.size, hk.2.2⟩
/-- The file that is being read, in its box at G. -/
structure Bx (w4 wr : World) (G : Nat) (v : Value) (done : List By) : Prop where
  c0 : wr.cell? ⟨G, 0, none⟩ = some v
  c1 : wr.cell? ⟨G, 1, none⟩ = some (.int .i64 0)
  c2 : wr.cell? ⟨G, 2, none⟩ = some (.bool false)
  fr : ∀ i, wr.frozen? ⟨G, i, none⟩ = false
  ga : Gat w4 wr v done
  ch : Chg (fun k => k = G) w4 wr
  lt : G < w4.heap.size
theorem Bx.grown {w4 wr w5 : World} {G : Nat} {v : Value} {done : List By} (h : Bx w4 wr G v done) (g : wr.grownBy w5 none) : Bx w4 w5 G v done :=
  ⟨g.cell h.c0 (by simp), g.cell h.c1 (by simp), g.cell h.c2 (by simp), fun i => by rw [(Chg.of (F := fun _ => False) g (by simp)).frozen (a := ⟨G, i, none⟩) (World.block_lt_of_cell? wr ⟨G, 0, none⟩ h.c0) id]; exact h.fr i, h.ga.grown g, h.ch.trans (Chg.of (F := fun k => k = G) g (by simp)) fun b hb => .inl hb, h.lt⟩
theorem chg_end (w5 : World) (G Q : Nat) (u1 u2 x0 x1 x2 : Value) : Chg (fun k => k = G ∨ k = Q) w5 (((((w5.setCell ⟨G, 1, none⟩ u1).setCell ⟨G, 2, none⟩ u2).setCell ⟨Q, 0, none⟩ x0).setCell ⟨Q, 1, none⟩ x1).setCell ⟨Q, 2, none⟩ x2).drew := by
  have hs : ∀ (W : World) (p : Addr) (u : Value), p.block = G ∨ p.block = Q → Chg (fun k => k = G ∨ k = Q) W (W.setCell p u) := fun W p u hp => (chg_set W p u).wide fun k hk => by rw [hk]; exact hp
  have hd : ∀ W : World, Chg (fun k => k = G ∨ k = Q) W W.drew := fun W => Chg.of (grown_drew (grown_refl W none)) (by simp)
  have tr : ∀ {a b c : World}, Chg (fun k => k = G ∨ k = Q) a b → Chg (fun k => k = G ∨ k = Q) b c → Chg (fun k => k = G ∨ k = Q) a c := fun h1 h2 => h1.trans h2 fun _ hb => .inl hb
  exact tr (tr (tr (tr (tr (hs _ _ _ (.inl rfl)) (hs _ _ _ (.inl rfl))) (hs _ _ _ (.inr rfl))) (hs _ _ _ (.inr rfl))) (hs _ _ _ (.inr rfl))) (hd _)
/-- What it answers of bytes that are no file, or of one. -/
def Rf10 (w w' : World) (B : By) (e : Ending) : Prop :=
  ∃ ad n c sz, e = .returned (.agg #[.slice ad n c, .int .i64 sz, .bool (rdF B).isSome]) ∧ ∀ ls r, rdF B = some (ls, r) → sz = (B.length : Int) - (r : Int) ∧ Ro w' w.heap.size (.slice ad n c) ls (fun k => w.heap.size ≤ k)
set_option maxRecDepth 100000 in
set_option maxHeartbeats 3200000 in
theorem rread10 (a : Option Addr) (c : Nat) (B : By) (w : World) (h : Cd.Sl w (.slice a B.length c) (bI B)) (hl : B.length ≤ 1048576) :
    Calls Tryz.prog 31 #[.slice a B.length c] w fun e w' => w.grownBy w' none ∧ Rf10 w w' B e := by
  cases hu : un B with
  | none =>
    have hr : rdF B = none := by unfold rdF; rw [hu]
    have UN : ∀ o, _ := fun o => runf_none (h.next (World.grownBy_alloc w o none)) (by omega) hu
    have HR : Hid (rdF B = none) := hr
    clear hr hu h
    go_enter Tryz.func31, Tryz.ntmps31
    go_wp2_with (go_at_call 57; (with_reducible refine (UN _).mono ?_); rintro e w2 ⟨x, hx, rfl, hg2⟩; obtain ⟨b0, b1, b2, bf, hz⟩ := box3 hg2; obtain ⟨t0, t1, t2⟩ := sets3 b0 b1 b2 (.slice none 0 0) (.int .i64 0) (.bool false))
    (try simp only [Exit.inBlock, Exit.then])
    refine bodyPost_ret (by simp [results, Tryz.results31, go_sem, t0, t1, t2]; try rfl) rfl ?_
    refine ⟨grown_sets (grown_more (World.grownBy_alloc w _ none) hg2 (by simp)) (Nat.le_refl _) _ _ _ _ _ _, none, 0, 0, 0, ?_, fun ls r e => ?_⟩
    · rw [HR.out]; rfl
    · rw [HR.out] at e; cases e
  | some p =>
    obtain ⟨hd, m⟩ := p
    obtain ⟨m1, m2⟩ := un_lt hu
    have hhd : hd.length ≤ 2000000 := by
      have := (un_form hu).1
      omega
    have US : ∀ o, _ := fun o => runf_some (h.next (World.grownBy_alloc w o none)) (by omega) hu
    cases hN : hdN hd with
    | none =>
      have hr : rdF B = none := by unfold rdF; rw [hu]; simp only; rw [hN]
      have HR : Hid (rdF B = none) := hr
      have DC : ∀ {a' c' B0 w2}, eB.Own w2 B0 (.slice a' hd.length c') hd → _ := fun {a' c' B0 w2} ho => rdec_none hhd hN (a' := a') (c' := c') (B0 := B0) (w2 := w2) ho
      clear hr hu h hN
      go_enter Tryz.func31, Tryz.ntmps31
      go_wp2_with (first
        | (go_at_call 57; (with_reducible refine (US _).mono ?_); rintro e w2 ⟨a2, c2, rfl, hO2, hg2⟩)
        | (go_at_call 58; (with_reducible refine (DC hO2).mono ?_); rintro e w3 ⟨x, hx, rfl, hg3⟩; obtain ⟨b0, b1, b2, bf, hz⟩ := box3 (grown_more hg2 hg3 (by simp)); obtain ⟨t0, t1, t2⟩ := sets3 b0 b1 b2 (.slice none 0 0) (.int .i64 0) (.bool false)))
      (try simp only [Exit.inBlock, Exit.then])
      refine bodyPost_ret (by simp [results, Tryz.results31, go_sem, t0, t1, t2]; try rfl) rfl ?_
      refine ⟨grown_sets (grown_more (World.grownBy_alloc w _ none) (grown_more hg2 hg3 (by simp)) (by simp)) (Nat.le_refl _) _ _ _ _ _ _, none, 0, 0, 0, ?_, fun ls r e => ?_⟩
      · rw [HR.out]; rfl
      · rw [HR.out] at e; cases e
    | some N =>
      have DC : ∀ {a' c' B0 w2}, eB.Own w2 B0 (.slice a' hd.length c') hd → _ := fun {a' c' B0 w2} ho => rdec_some hhd hN (a' := a') (c' := c') (B0 := B0) (w2 := w2) ho
      have HR : Hid (rdF B = if N ≤ ((recs (B.drop m)).1.length : Int) then some (recs (B.drop m)) else none) := by
        show _ = _
        unfold rdF
        rw [hu]
        simp only
        rw [hN]
      have HS : Hid (Cd.Sl w (.slice a B.length c) (bI B)) := h
      clear hu h hN
      go_enter Tryz.func31, Tryz.ntmps31
      go_wp2_with (first
        | (go_at_call 57; (with_reducible refine (US _).mono ?_); rintro e w2 ⟨a2, c2, rfl, hO2, hg2⟩)
        | (go_at_call 58; (with_reducible refine (DC hO2).mono ?_); rintro e w3 ⟨g3, c3, rfl, hc3, hg3⟩; have hq3 := box3 (grown_more hg2 hg3 (by simp)); have hg03 : w.grownBy w3 none := grown_more (World.grownBy_alloc w _ none) (grown_more hg2 hg3 (by simp)) (by simp); clear hO2 hg2 hg3))
      obtain ⟨w4, hw4⟩ : ∃ w4, w4 = w3.alloc (.cells #[.slice none 0 0, .int .i64 0, .bool false] 72) := ⟨_, rfl⟩
      have hB4 : Bx w4 w4 w3.heap.size (.slice none 0 0) [] := by
        rw [hw4]
        exact ⟨new_at w3 rfl rfl, new_at w3 rfl rfl, new_at w3 rfl rfl, fun i => World.frozen?_alloc_new _ _ _ _, Ro.nil _ _ _, Chg.refl _ _, by simp⟩
      have hg34 : w3.grownBy w4 none := by rw [hw4]; exact World.grownBy_alloc w3 _ none
      have hg04 : w.grownBy w4 none := grown_more hg03 hg34 (by simp)
      have hc4 : w4.cell? ⟨g3, 1, none⟩ = some (.int .i64 N) := hg34.cell hc3 (by simp)
      have hgG : g3 ≠ w3.heap.size := fun e => by have := World.block_lt_of_cell? w3 _ hc3; simp at this; omega
      obtain ⟨b0, b1, b2, bf, hzq⟩ := hq3
      have hz3 : w.heap.size ≤ w3.heap.size := hg03.size
      have hQ4 : w4.cell? ⟨w.heap.size, 0, none⟩ = some (.slice none 0 0) ∧ w4.cell? ⟨w.heap.size, 1, none⟩ = some (.int .i64 0) ∧ w4.cell? ⟨w.heap.size, 2, none⟩ = some (.bool false) ∧ (∀ i, w4.frozen? ⟨w.heap.size, i, none⟩ = false) := ⟨hg34.cell b0 (by simp), hg34.cell b1 (by simp), hg34.cell b2 (by simp), fun i => by rw [(Chg.of (F := fun _ => False) hg34 (by simp)).frozen (a := ⟨w.heap.size, i, none⟩) hzq id]; exact bf i⟩
      have HQ : Hid (w4.cell? ⟨w.heap.size, 0, none⟩ = some (.slice none 0 0) ∧ w4.cell? ⟨w.heap.size, 1, none⟩ = some (.int .i64 0) ∧ w4.cell? ⟨w.heap.size, 2, none⟩ = some (.bool false) ∧ (∀ i, w4.frozen? ⟨w.heap.size, i, none⟩ = false)) := hQ4
      have HC4 : Hid (w4.cell? ⟨g3, 1, none⟩ = some (.int .i64 N)) := hc4
      obtain ⟨G, hG⟩ : ∃ G, G = w3.heap.size := ⟨_, rfl⟩
      rw [← hw4]
      rw [← hG] at hB4 hgG hzq hz3 ⊢
      clear b0 b1 b2 bf hc3 hg03 hg34 hQ4 hc4 US DC hw4 hG
      go_loopw [4] (fun q wr => ∃ (done : List By) (x : Nat) (ad : Option Addr) (cd : Nat), q = .int .i64 (x : Int) ∧ m ≤ x ∧ x ≤ B.length ∧ Bx w4 wr G (.slice ad done.length cd) done ∧ Hid (recs (B.drop m) = (done ++ (recs (B.drop x)).1, (recs (B.drop x)).2)) ∧ done.length ≤ x) (fun q _ => B.length - (intOf q).toNat)
      case atStart => exact ⟨[], m, none, 0, rfl, Nat.le_refl _, m2, hB4, by show _ = _; simp, Nat.zero_le _⟩
      case round =>
        obtain ⟨done, x, ad, cd, rfl, hx1, hx2, hB, HD, hdx⟩ := hrel
        have hgr : w.grownBy wr none := ((Chg.of (F := fun _ => False) hg04 (by simp)).trans hB.ch fun b hb => .inr (by omega)).none
        obtain ⟨a', c', hsl, hS'⟩ := sl_from (HS.out.next hgr) hx2
        have hdl : (B.drop x).length ≤ 2000000 := by rw [List.length_drop]; omega
        have hxi : (x : Int) ≤ (B.length : Int) := by omega
        cases hu : un (B.drop x) with
        | none =>
          have UN := runf_none hS' hdl hu
          have hfin : recs (B.drop m) = (done, B.length - x) := by rw [HD.out, recs_none hu, List.append_nil, List.length_drop]
          rw [hfin] at HR
          have HRR : Hid (rdF B = if N ≤ (done.length : Int) then some (done, B.length - x) else none) := HR
          have hQG : ¬ w.heap.size = G := by omega
          have hQlt : w.heap.size < w4.heap.size := Nat.lt_trans hzq hB.lt
          clear hu HD hfin HR hB4
          generalize (B.drop x).length = LD at *
          by_cases hW : N ≤ (done.length : Int)
          · have hWd : decide (N ≤ (done.length : Int)) = true := by simpa using hW
            go_wp2_with (go_at_call 57; (with_reducible refine UN.mono ?_); rintro e w5 ⟨z, hz, rfl, hg5⟩; have hB5 := hB.grown hg5; have k0 := hB5.c0; have k1 := hB5.c1; have k2 := hB5.c2; have kf := hB5.fr; have kg := hB5.ch.cell HC4.out hgG; have q0 := hB5.ch.cell HQ.out.1 hQG; have q1 := hB5.ch.cell HQ.out.2.1 hQG; have q2 := hB5.ch.cell HQ.out.2.2.1 hQG; have qf : ∀ i, w5.frozen? ⟨w.heap.size, i, none⟩ = false := (fun i => by rw [hB5.ch.frozen (a := ⟨w.heap.size, i, none⟩) hQlt hQG]; exact HQ.out.2.2.2 i); have u1 : (w5.setCell ⟨G, 1, none⟩ (.int .i64 (x : Int))).cell? ⟨G, 1, none⟩ = some (.int .i64 (x : Int)) := set_same k1; have u2 : ((w5.setCell ⟨G, 1, none⟩ (.int .i64 (x : Int))).drew.setCell ⟨G, 2, none⟩ (.bool true)).cell? ⟨G, 2, none⟩ = some (.bool true) := set_same (u := .bool false) ((set_other (by simp)).trans k2))
            refine region_tail 9 (by kernel_rfl) (by kernel_rfl) ?_
            simp only [List.take_succ_cons, List.take_zero, List.drop_succ_cons, List.drop_zero]
            iterate 9 still_step
            refine wpStill_nil ?_
            go_wp2
            obtain ⟨t0, t1, t2⟩ := sets3 (w2 := (w5.setCell ⟨G, 1, none⟩ (.int .i64 (x : Int))).setCell ⟨G, 2, none⟩ (.bool true)) (q := w.heap.size) ((set_other (by simp <;> omega)).trans ((set_other (by simp <;> omega)).trans q0)) ((set_other (by simp <;> omega)).trans ((set_other (by simp <;> omega)).trans q1)) ((set_other (by simp <;> omega)).trans ((set_other (by simp <;> omega)).trans q2)) (.slice ad done.length cd) (.int .i64 (x : Int)) (.bool true)
            (try simp only [Exit.inBlock, Exit.then])
            refine bodyPost_ret (by simp [results, Tryz.results31, go_sem, t0, t1, t2]; try rfl) rfl ?_
            have CE := chg_end w5 G w.heap.size (.int .i64 (x : Int)) (.bool true) (.slice ad done.length cd) (.int .i64 (x : Int)) (.bool true)
            refine ⟨((Chg.of (F := fun _ => False) (grown_more hgr hg5 (by simp)) (by simp)).trans CE fun b hb => .inr (by omega)).none, ad, done.length, cd, (x : Int), ?_, fun ls r e => ?_⟩
            · rw [HRR.out, if_pos hW]; rfl
            · rw [HRR.out, if_pos hW] at e
              injection e with e
              injection e with e1 e2
              subst e1 e2
              refine ⟨by omega, ?_⟩
              have := hB5.ga.kept CE (fun k hk => by have := hB5.lt; omega)
              exact (Ro.low this (by omega)).wide fun k hk => by have := hk.1; omega
          · have hWd : decide (N ≤ (done.length : Int)) = false := by simpa using hW
            go_wp2_with (go_at_call 57; (with_reducible refine UN.mono ?_); rintro e w5 ⟨z, hz, rfl, hg5⟩; have hB5 := hB.grown hg5; have k0 := hB5.c0; have k1 := hB5.c1; have k2 := hB5.c2; have kf := hB5.fr; have kg := hB5.ch.cell HC4.out hgG; have q0 := hB5.ch.cell HQ.out.1 hQG; have q1 := hB5.ch.cell HQ.out.2.1 hQG; have q2 := hB5.ch.cell HQ.out.2.2.1 hQG; have qf : ∀ i, w5.frozen? ⟨w.heap.size, i, none⟩ = false := (fun i => by rw [hB5.ch.frozen (a := ⟨w.heap.size, i, none⟩) hQlt hQG]; exact HQ.out.2.2.2 i); have u1 : (w5.setCell ⟨G, 1, none⟩ (.int .i64 (x : Int))).cell? ⟨G, 1, none⟩ = some (.int .i64 (x : Int)) := set_same k1; have u2 : ((w5.setCell ⟨G, 1, none⟩ (.int .i64 (x : Int))).drew.setCell ⟨G, 2, none⟩ (.bool false)).cell? ⟨G, 2, none⟩ = some (.bool false) := set_same (u := .bool false) ((set_other (by simp)).trans k2))
            refine region_tail 9 (by kernel_rfl) (by kernel_rfl) ?_
            simp only [List.take_succ_cons, List.take_zero, List.drop_succ_cons, List.drop_zero]
            iterate 9 still_step
            refine wpStill_nil ?_
            go_wp2
            obtain ⟨t0, t1, t2⟩ := sets3 (w2 := (w5.setCell ⟨G, 1, none⟩ (.int .i64 (x : Int))).setCell ⟨G, 2, none⟩ (.bool false)) (q := w.heap.size) ((set_other (by simp <;> omega)).trans ((set_other (by simp <;> omega)).trans q0)) ((set_other (by simp <;> omega)).trans ((set_other (by simp <;> omega)).trans q1)) ((set_other (by simp <;> omega)).trans ((set_other (by simp <;> omega)).trans q2)) (.slice ad done.length cd) (.int .i64 (x : Int)) (.bool false)
            (try simp only [Exit.inBlock, Exit.then])
            refine bodyPost_ret (by simp [results, Tryz.results31, go_sem, t0, t1, t2]; try rfl) rfl ?_
            have CE := chg_end w5 G w.heap.size (.int .i64 (x : Int)) (.bool false) (.slice ad done.length cd) (.int .i64 (x : Int)) (.bool false)
            refine ⟨((Chg.of (F := fun _ => False) (grown_more hgr hg5 (by simp)) (by simp)).trans CE fun b hb => .inr (by omega)).none, ad, done.length, cd, (x : Int), ?_, fun ls r e => ?_⟩
            · rw [HRR.out, if_neg (by omega)]; rfl
            · rw [HRR.out, if_neg (by omega)] at e
              cases e
        | some p =>
          obtain ⟨y, n'⟩ := p
          have US := runf_some hS' hdl hu
          obtain ⟨n1, n2⟩ := un_lt hu
          rw [List.length_drop] at n2
          have HD2 : Hid (recs (B.drop m) = ((done ++ [y]) ++ (recs (B.drop (x + n'))).1, (recs (B.drop (x + n'))).2)) := by
            show _ = _
            rw [HD.out, recs_some hu, List.drop_drop]
            simp
          obtain ⟨vs, hO, hE⟩ : Ro wr w4.heap.size (.slice ad done.length cd) done (fun k => w4.heap.size ≤ k ∧ k < wr.heap.size ∧ (Value.slice ad done.length cd).ownBlock ≠ some k) := hB.ga
          have hvl := hE.1
          have HE : Hid (Each wr vs done (fun k => w4.heap.size ≤ k ∧ k < wr.heap.size ∧ (Value.slice ad done.length cd).ownBlock ≠ some k)) := hE
          have hva : ∀ k, (Value.slice ad done.length cd).ownBlock = some k → w4.heap.size ≤ k ∧ k < wr.heap.size := fun k hk => hO.lt k hk
          have hGl := hB.lt
          have hz4r := hB.ch.size
          clear HD hu hE hB4
          generalize (B.drop x).length = LD at *
          go_wp2_with (first
            | (go_at_call 57; (with_reducible refine US.mono ?_); rintro e w5 ⟨ay, cy, rfl, hY, hg5⟩; have hz5 := hg5.size; have hB5 := hB.grown hg5; have k0 := hB5.c0; have hO5 : ∀ o, eL.Own (w5.alloc o) w4.heap.size (.slice ad done.length cd) vs := (fun o => (hO.grown hg5).grown (World.grownBy_alloc w5 o none)); have hX5 : ∀ o, o = Obj.cells #[.slice ay y.length cy] 39 → eL.Rx (w5.alloc o) (.slice (some ⟨w5.heap.size, 0, none⟩) 1 1) [(ay, y.length, cy)] := (fun o ho => Elm.rx_one fun j u hu => (by
                  match j, hu with
                  | 0, hu => injection hu with hu; rw [← hu, ho]; exact new_at w5 rfl rfl)))
            | (at_builtin; refine Elm.wpList_append (E := eL) rfl (.tmp 52) (.tmp 54) rfl w4.heap.size _ vs rfl (hO5 _) _ [(ay, y.length, cy)] rfl (hX5 _ rfl) (by simp; omega) (by show (vs.length + 1) * 24 ≤ _; omega) (by simp; omega) ?_; intro ad6 n6 c6 w6 hO6 hg6 hl6; have hg56 : w5.grownBy w6 (Value.slice ad done.length cd).ownBlock := grown_more ((World.grownBy_alloc w5 _ none).but _) hg6 (fun _ e => .inl e); have C6 : Chg (fun k => (Value.slice ad done.length cd).ownBlock = some k) w5 w6 := Chg.of hg56 (fun k hk => hk); have nG : ¬ (Value.slice ad done.length cd).ownBlock = some G := (fun e => by have := (hva G e).1; omega); have j0 := C6.cell hB5.c0 nG; have j1 := C6.cell hB5.c1 nG; have j2 := C6.cell hB5.c2 nG; have jf : ∀ i, w6.frozen? ⟨G, i, none⟩ = false := (fun i => by rw [C6.frozen (a := ⟨G, i, none⟩) (World.block_lt_of_cell? w5 ⟨G, 0, none⟩ hB5.c0) nG]; exact hB5.fr i)))
          obtain rfl : n6 = (done ++ [y]).length := by have := hO6.len; simp at this ⊢; omega
          have hz6 := hg56.size
          have CS := chg_set w6 ⟨G, 0, none⟩ (.slice ad6 (done ++ [y]).length c6)
          go_roundw
          case rel =>
            refine ⟨done ++ [y], x + n', ad6, c6, by go_num, by omega, by omega, ⟨set_same j0, (set_other (by simp)).trans j1, (set_other (by simp)).trans j2, fun i => (World.frozen?_setCell _ _ _ _).trans (jf i), Gat.kept (F := fun k => k = G) ⟨_, hO6, ?_⟩ CS (fun k hk => by omega), (hB5.ch.trans C6 fun b hb => .inr (hva b hb).1).trans CS fun b hb => .inl hb, hGl⟩, HD2, by simp; omega⟩
            refine Each.snoc ?_ ?_ ?_
            · refine ((HE.out.grown hg5).kept (F := fun k => (Value.slice ad done.length cd).ownBlock = some k) C6 fun k hk => hk.2.2).wide fun k hk => ⟨hk.1, by omega, fun e => ?_⟩
              rcases hl6 with h5 | h5
              · rw [h5] at e; exact hk.2.2 e
              · rw [h5] at e; injection e with e; simp at e; omega
            · exact (hY.kept (F := fun k => (Value.slice ad done.length cd).ownBlock = some k) C6 fun k hk e => by have h6 := (hY.lt k hk).1; have h7 := (hva k e).2; omega).rx
            · intro _ k hk
              have h6 := hY.lt k hk
              refine ⟨by omega, by omega, fun e => ?_⟩
              rcases hl6 with h5 | h5
              · rw [h5] at e; have h7 := (hva k e).2; omega
              · rw [h5] at e; injection e with e; simp at e; omega
          case measure => simp [intOf]; omega
end Go.Proofs.YtapdhkgeolcogaaGreatDoor
