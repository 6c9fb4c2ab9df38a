/- What the document's own 'digits' answers. -/
import Derived.Test.YthjfecniipifhaaDoorKRef
namespace Go.Proofs.YthjfecniipifhaaDoor.Cro
/-- How many digits lead, five at most looked at. -/
def lead : Nat → List UInt8 → Nat
  | 0, _ => 0
  | _ + 1, [] => 0
  | k + 1, b :: t => if dig b = true then lead k t + 1 else 0
theorem lead_is : ∀ (c q : Nat) (l : List UInt8), q ≤ c → q ≤ l.length → (l.take q).all dig = true → (q = c ∨ ∀ b, l[q]? = some b → dig b = false) → lead c l = q
  | 0, q, l, h, _, _, _ => by rw [lead]; omega
  | c + 1, q, [], _, h, _, _ => by simp at h; rw [lead, h]
  | c + 1, 0, b :: t, _, _, _, h => by
    rcases h with h | h
    · cases h
    · have := h b rfl
      rw [lead, if_neg (by simp [this])]
  | c + 1, q + 1, b :: t, h1, h2, h3, h4 => by
    simp only [List.take_succ_cons, List.all_cons, Bool.and_eq_true] at h3
    rw [lead, if_pos h3.1, lead_is c q t (by omega) (by simpa using h2) h3.2 (by
      rcases h4 with h | h
      · exact .inl (by omega)
      · exact .inr (fun b' hb' => h b' (by simpa using hb')))]
theorem lead_fact : ∀ (c : Nat) (l : List UInt8), lead c l ≤ c ∧ lead c l ≤ l.length ∧ (l.take (lead c l)).all dig = true ∧ (lead c l = c ∨ ∀ b, l[lead c l]? = some b → dig b = false)
  | 0, l => by simp [lead]
  | c + 1, [] => by simp [lead]
  | c + 1, b :: t => by
    obtain ⟨h1, h2, h3, h4⟩ := lead_fact c t
    rw [lead]
    by_cases hb : dig b = true
    · rw [if_pos hb]
      refine ⟨by omega, by simp; omega, by simp [hb, h3], ?_⟩
      rcases h4 with h | h
      · exact .inl (by omega)
      · exact .inr (fun b' hb' => h b' (by simpa using hb'))
    · rw [if_neg hb]
      refine ⟨by omega, by omega, by simp, .inr (fun b' hb' => ?_)⟩
      simp at hb'
      subst hb'
      simpa using hb
/-- A number of one to four digits that leads, and how many. -/
def nm (l : List UInt8) : Option (Nat × Nat) := if 1 ≤ lead 5 l ∧ lead 5 l ≤ 4 then some (val (l.take (lead 5 l)), lead 5 l) else none
end Go.Proofs.YthjfecniipifhaaDoor.Cro
namespace Go.Proofs.YthjfecniipifhaaDoor
open Go.RowKit
set_option linter.unusedVariables false
/-- What 'digits' hands back. -/
def digV (l : List UInt8) (i : Nat) : Value := match Cro.nm l with
  | some (n, q) => .tuple #[.int .i64 n, .int .i64 ((i + q : Nat) : Int)]
  | none => .tuple #[.int .i64 (-1), .int .i64 i]
theorem digV_at {l : List UInt8} {i q : Nat} (h1 : q ≤ 5) (h2 : q ≤ l.length) (h3 : (l.take q).all Cro.dig = true) (h4 : q = 5 ∨ ∀ b, l[q]? = some b → Cro.dig b = false) :
    digV l i = if 1 ≤ q ∧ q ≤ 4 then .tuple #[.int .i64 (Cro.val (l.take q)), .int .i64 ((i + q : Nat) : Int)] else .tuple #[.int .i64 (-1), .int .i64 i] := by
  have e := Cro.lead_is 5 q l h1 h2 h3 h4
  unfold digV Cro.nm
  rw [e]
  by_cases c : 1 ≤ q ∧ q ≤ 4
  · rw [if_pos c, if_pos c]
  · rw [if_neg c, if_neg c]

set_option maxRecDepth 100000 in
set_option maxHeartbeats 1600000 in
theorem rDigits (s : ByteArray) (i : Nat) (hs : s.size ≤ 256) (hi : i ≤ 300) (w : World) :
    Calls Tryd.prog 55 #[.string s, .int .i64 i] w fun e w' => e = .returned (digV (s.data.toList.drop i) i) ∧ w' = w := by
  have hl : s.data.toList.length = s.size := by simp
  have HD : Hid (∀ q, q ≤ 5 → q ≤ (s.data.toList.drop i).length → ((s.data.toList.drop i).take q).all Cro.dig = true → (q = 5 ∨ ∀ b, (s.data.toList.drop i)[q]? = some b → Cro.dig b = false) →
    digV (s.data.toList.drop i) i = if 1 ≤ q ∧ q ≤ 4 then .tuple #[.int .i64 (Cro.val ((s.data.toList.drop i).take q)), .int .i64 ((i + q : Nat) : Int)] else .tuple #[.int .i64 (-1), .int .i64 i]) := fun q => digV_at
  generalize digV (s.data.toList.drop i) i = V at HD ⊢
  have HL : Hid (s.data.toList.length = s.size) := hl
  clear hl
  go_enter Tryd.func55, Tryd.ntmps55
  go_wp2
  go_loop [6, 7] (fun n k => ∃ q m : Nat, k = .int .i64 ((i + q : Nat) : Int) ∧ n = .int .i64 m ∧ q ≤ 5 ∧ m < 100000 ∧ Hid (q ≤ (s.data.toList.drop i).length ∧ m = Cro.val ((s.data.toList.drop i).take q) ∧ ((s.data.toList.drop i).take q).all Cro.dig = true)) (fun _ k => (6 + i - (intOf k).toNat))
  case atStart => exact ⟨0, 0, by simp, rfl, by omega, by omega, ⟨by omega, by simp [Cro.val], by simp⟩⟩
  case round =>
    obtain ⟨q, m, rfl, rfl, hq, hm, HM⟩ := hrel
    have hM := HM.out
    have fin : ∀ (h4 : q = 5 ∨ ∀ b, (s.data.toList.drop i)[q]? = some b → Cro.dig b = false), V = if 1 ≤ q ∧ q ≤ 4 then .tuple #[.int .i64 m, .int .i64 ((i + q : Nat) : Int)] else .tuple #[.int .i64 (-1), .int .i64 i] := fun h4 => by
      rw [HD.out q hq hM.1 hM.2.2 h4, ← hM.2.1]
    have FIN : Hid _ := fin
    clear fin
    by_cases hlt : i + q < s.size
    · obtain ⟨b, hb⟩ : ∃ b, (s.data.toList.drop i)[q]? = some b := ⟨_, List.getElem?_eq_getElem (by rw [List.length_drop]; have := HL.out; omega)⟩
      have hb0 : s.data.toList[i + q]? = some b := by rw [List.getElem?_drop] at hb; exact hb
      have hix0 := index_at (P := Tryd.prog) Tryd.underlying9 s (i + q) b hb0
      have hix : ∀ w', (Instr.index 9 (.string s) (.int .i64 ((i : Int) + (q : Int)))).run Tryd.prog w' = .ok (.int .u8 (b.toNat : Int)) w' := fun w' => hix0 w'
      have z0 : decide ((i : Int) + (q : Int) < (s.size : Int)) = true := decide_eq_true (by omega)
      have HDg : Hid (Cro.dig b = (decide (48 ≤ b.toNat) && decide (b.toNat ≤ 57))) := rfl
      have HB : Hid (∀ b', (s.data.toList.drop i)[q]? = some b' → b' = b) := fun b' h' => by rw [hb] at h'; injection h' with h'; exact h'.symm
      have HS : Hid ((s.data.toList.drop i).take (q + 1) = (s.data.toList.drop i).take q ++ [b]) := by show _ = _; rw [List.take_add_one, hb]; rfl
      have HQ : Hid (q + 1 ≤ (s.data.toList.drop i).length) := by show _ ≤ _; rw [List.length_drop]; have := HL.out; omega
      have HVs : Hid (∀ l, Cro.val (l ++ [b]) = Cro.val l * 10 + (b.toNat - 48)) := fun l => Cro.val_snoc l b
      clear hb hb0 hix0
      obtain ⟨c, hc⟩ : ∃ c, c = b.toNat := ⟨_, rfl⟩
      rw [← hc] at hix HDg HVs
      clear hc
      by_cases c1 : c < 48
      · have z1 : decide (48 ≤ (c : Int)) = false := decide_eq_false (by omega)
        have hV := FIN.out ((.inr (fun b' hb' => by rw [HB.out b' hb', HDg.out]; simp; omega)))
        clear FIN HM hM
        rcases (by omega : q = 0 ∨ (1 ≤ q ∧ q ≤ 4) ∨ q = 5) with h0 | h14 | h5
        · have zk : ((i : Int) + (q : Int) == (i : Int)) = true := by simp; omega
          rw [if_neg (by omega)] at hV
          have HV : Hid (V = .tuple #[.int .i64 (-1), .int .i64 i]) := hV
          clear hV h0
          go_wp2
          go_ret2
          exact ⟨ret_val HV.out.symm, rfl⟩
        · have zk : ((i : Int) + (q : Int) == (i : Int)) = false := by simp; omega
          have zl : decide (4 < (i : Int) + (q : Int) - (i : Int)) = false := decide_eq_false (by omega)
          rw [if_pos h14] at hV
          have HV : Hid (V = .tuple #[.int .i64 m, .int .i64 ((i : Int) + (q : Int))]) := hV
          clear hV h14
          go_wp2
          go_ret2
          exact ⟨ret_val HV.out.symm, rfl⟩
        · have zk : ((i : Int) + (q : Int) == (i : Int)) = false := by simp; omega
          have zl : decide (4 < (i : Int) + (q : Int) - (i : Int)) = true := decide_eq_true (by omega)
          rw [if_neg (by omega)] at hV
          have HV : Hid (V = .tuple #[.int .i64 (-1), .int .i64 i]) := hV
          clear hV h5
          go_wp2
          go_ret2
          exact ⟨ret_val HV.out.symm, rfl⟩
      · have z1 : decide (48 ≤ (c : Int)) = true := decide_eq_true (by omega)
        by_cases c2 : 57 < c
        · have z2 : decide ((c : Int) ≤ 57) = false := decide_eq_false (by omega)
          have hV := FIN.out ((.inr (fun b' hb' => by rw [HB.out b' hb', HDg.out]; simp; omega)))
          clear FIN HM hM
          rcases (by omega : q = 0 ∨ (1 ≤ q ∧ q ≤ 4) ∨ q = 5) with h0 | h14 | h5
          · have zk : ((i : Int) + (q : Int) == (i : Int)) = true := by simp; omega
            rw [if_neg (by omega)] at hV
            have HV : Hid (V = .tuple #[.int .i64 (-1), .int .i64 i]) := hV
            clear hV h0
            go_wp2
            go_ret2
            exact ⟨ret_val HV.out.symm, rfl⟩
          · have zk : ((i : Int) + (q : Int) == (i : Int)) = false := by simp; omega
            have zl : decide (4 < (i : Int) + (q : Int) - (i : Int)) = false := decide_eq_false (by omega)
            rw [if_pos h14] at hV
            have HV : Hid (V = .tuple #[.int .i64 m, .int .i64 ((i : Int) + (q : Int))]) := hV
            clear hV h14
            go_wp2
            go_ret2
            exact ⟨ret_val HV.out.symm, rfl⟩
          · have zk : ((i : Int) + (q : Int) == (i : Int)) = false := by simp; omega
            have zl : decide (4 < (i : Int) + (q : Int) - (i : Int)) = true := decide_eq_true (by omega)
            rw [if_neg (by omega)] at hV
            have HV : Hid (V = .tuple #[.int .i64 (-1), .int .i64 i]) := hV
            clear hV h5
            go_wp2
            go_ret2
            exact ⟨ret_val HV.out.symm, rfl⟩
        · have z2 : decide ((c : Int) ≤ 57) = true := decide_eq_true (by omega)
          by_cases c5 : q = 5
          · have z3 : decide ((i : Int) + (q : Int) - (i : Int) < 5) = false := decide_eq_false (by omega)
            have hV := FIN.out ((.inl c5))
            clear FIN HM hM
            have zk : ((i : Int) + (q : Int) == (i : Int)) = false := by simp; omega
            have zl : decide (4 < (i : Int) + (q : Int) - (i : Int)) = true := decide_eq_true (by omega)
            rw [if_neg (by omega)] at hV
            have HV : Hid (V = .tuple #[.int .i64 (-1), .int .i64 i]) := hV
            clear hV c5
            go_wp2
            go_ret2
            exact ⟨ret_val HV.out.symm, rfl⟩
          · have z3 : decide ((i : Int) + (q : Int) - (i : Int) < 5) = true := decide_eq_true (by omega)
            have HM' : Hid (q + 1 ≤ (s.data.toList.drop i).length ∧ m * 10 + (c - 48) = Cro.val ((s.data.toList.drop i).take (q + 1)) ∧ ((s.data.toList.drop i).take (q + 1)).all Cro.dig = true) := by
              refine ⟨HQ.out, by rw [HS.out, HVs.out, ← hM.2.1], ?_⟩
              rw [HS.out, List.all_append, hM.2.2]
              simp only [List.all_cons, List.all_nil, HDg.out]
              simp
              omega
            have hlt5 : m * 10 + (c - 48) < 100000 := by
              have h1 := HM'.out
              have := Cro.val_le (q + 1) ((s.data.toList.drop i).take (q + 1)) (by rw [List.length_take]; omega) h1.2.2
              have hp : 10 ^ (q + 1) ≤ 10 ^ 5 := Nat.pow_le_pow_right (by omega) (by omega)
              omega
            clear FIN HM hM HS HVs HB HDg HQ
            go_wp2
            go_round
            case rel => exact ⟨q + 1, m * 10 + (c - 48), by go_num, by go_num, by omega, hlt5, HM'⟩
            case measure => simp [intOf]; omega
    · have z0 : decide ((i : Int) + (q : Int) < (s.size : Int)) = false := decide_eq_false (by omega)
      have hV := FIN.out ((.inr (fun b' hb' => by rw [List.getElem?_drop, List.getElem?_eq_none (by have := HL.out; omega)] at hb'; cases hb')))
      clear FIN HM hM
      rcases (by omega : q = 0 ∨ (1 ≤ q ∧ q ≤ 4) ∨ q = 5) with h0 | h14 | h5
      · have zk : ((i : Int) + (q : Int) == (i : Int)) = true := by simp; omega
        rw [if_neg (by omega)] at hV
        have HV : Hid (V = .tuple #[.int .i64 (-1), .int .i64 i]) := hV
        clear hV h0
        go_wp2
        go_ret2
        exact ⟨ret_val HV.out.symm, rfl⟩
      · have zk : ((i : Int) + (q : Int) == (i : Int)) = false := by simp; omega
        have zl : decide (4 < (i : Int) + (q : Int) - (i : Int)) = false := decide_eq_false (by omega)
        rw [if_pos h14] at hV
        have HV : Hid (V = .tuple #[.int .i64 m, .int .i64 ((i : Int) + (q : Int))]) := hV
        clear hV h14
        go_wp2
        go_ret2
        exact ⟨ret_val HV.out.symm, rfl⟩
      · have zk : ((i : Int) + (q : Int) == (i : Int)) = false := by simp; omega
        have zl : decide (4 < (i : Int) + (q : Int) - (i : Int)) = true := decide_eq_true (by omega)
        rw [if_neg (by omega)] at hV
        have HV : Hid (V = .tuple #[.int .i64 (-1), .int .i64 i]) := hV
        clear hV h5
        go_wp2
        go_ret2
        exact ⟨ret_val HV.out.symm, rfl⟩
end Go.Proofs.YthjfecniipifhaaDoor
