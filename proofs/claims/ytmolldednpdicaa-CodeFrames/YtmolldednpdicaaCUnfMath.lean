/- The plain mathematics of frames that are read: whole, cut, and with one byte turned. -/
import Derived.Test.YtmolldednpdicaaCFrame
import Derived.Test.YtmolldednpdicaaTurnedMath
namespace Go.Proofs.Ytmolldednpdicaa.Code
open Crc (Bytes Byte)

def unf (l : List Int) : Except Int (List Int × Nat) :=
  match rText l with
  | .error e => .error e
  | .ok (lo, hi) => if l.length < hi + 4 then .error 20 else if Crc.low (Crc.more 0 (l.take hi)) = (l.drop hi).take 4 then .ok ((l.drop lo).take (hi - lo), hi + 4) else .error 22

theorem frame_eq (b : List Int) : frame b = put b.length ++ (b ++ Crc.low (Crc.more 0 (head b))) := by unfold frame head; rw [List.append_assoc]
theorem head_len (b : List Int) : (head b).length = (put b.length).length + b.length := by unfold head; simp

theorem unf_frame {b : List Int} (hb : b.length ≤ 65536) (r : List Int) : unf (frame b ++ r) = .ok (b, (frame b).length) := by
  have e1 : frame b ++ r = put b.length ++ (b ++ (Crc.low (Crc.more 0 (head b)) ++ r)) := by rw [frame_eq]; simp [List.append_assoc]
  have e2 : frame b ++ r = head b ++ (Crc.low (Crc.more 0 (head b)) ++ r) := by unfold frame; rw [List.append_assoc]
  have hl : (frame b ++ r).length = (head b).length + 4 + r.length := by rw [e2]; simp [low_len]; omega
  unfold unf
  rw [show rText (frame b ++ r) = .ok ((put b.length).length, (put b.length).length + b.length) from by rw [e1]; exact rText_put hb]
  simp only
  rw [if_neg (by rw [hl, head_len]; omega), ← head_len]
  have t1 : (frame b ++ r).take (head b).length = head b := by rw [e2, List.take_left]
  have t2 : ((frame b ++ r).drop (head b).length).take 4 = Crc.low (Crc.more 0 (head b)) := by rw [e2, List.drop_left]; exact List.take_left' rfl
  rw [t1, t2, if_pos rfl]
  congr 2
  · rw [e1, List.drop_left, head_len, Nat.add_sub_cancel_left, List.take_left]
  · unfold frame; simp [low_len]

theorem unf_cut {b : List Int} (hb : b.length ≤ 65536) (k : Nat) (hk : k < (frame b).length) : unf ((frame b).take k) = .error 20 := by
  have hp := put_pos b.length
  rw [frame_len] at hk
  have hlen : ((frame b).take k).length = k := by rw [List.length_take, frame_len]; omega
  by_cases hkp : k < (put b.length).length
  · have hn : rNum ((frame b).take k) = .error 20 := by
      unfold rNum
      have hi : idx ((frame b).take k) = none := by
        refine idx_of_none fun i hi => ?_
        rw [hlen] at hi
        have h := (idx_some (idx_put b.length (b ++ Crc.low (Crc.more 0 (head b))))).2.2 i (by omega)
        rw [← frame_eq] at h
        simpa [hi] using h
      rw [hi]
    unfold unf rText
    rw [hn]
  · have e : (frame b).take k = put b.length ++ (b ++ Crc.low (Crc.more 0 (head b))).take (k - (put b.length).length) := by
      rw [frame_eq, List.take_append, List.take_of_length_le (by omega)]
    have hn : rNum ((frame b).take k) = .ok (b.length, (put b.length).length) := by rw [e]; exact rNum_put (by omega) _
    unfold unf rText
    rw [hn]
    simp only
    rw [if_neg (by omega), hlen]
    by_cases h1 : k < (put b.length).length + b.length
    · rw [if_pos h1]
    · rw [if_neg h1]
      simp only
      rw [if_pos (by omega)]

theorem put_mono (a b : Nat) (h : a ≤ b) : (put a).length ≤ (put b).length := by
  induction b using Nat.strongRecOn generalizing a with
  | _ b ih =>
    by_cases h1 : a < 128
    · rw [put_small h1]; exact put_pos b
    · rw [put_big (by omega), put_big (n := b) (by omega)]
      have := ih (b / 128) (by omega) (a / 128) (by omega)
      simp; omega

theorem stp_inj' {r x y : Nat} (hr : r < 4294967296) (hx : x < 256) (hy : y < 256) (e : Crc.stp r x = Crc.stp r y) : x = y := by
  rw [Crc.stp_eq, Crc.stp_eq] at e
  have h1 := Crc.shN_inj (k := 8) (Crc.xor_lt 32 hr (by omega)) (Crc.xor_lt 32 hr (by omega)) e
  have := congrArg (r ^^^ ·) h1
  simpa [← Nat.xor_assoc] using this

/-- One byte turned, and the sum is another. -/
theorem more_set {P b : List Int} (hP : Bytes P) (hb : Bytes b) {j : Nat} (hj : j < b.length) {z : Int} (hz : Byte z) (hne : z ≠ b.getD j 0) : Crc.more 0 (P ++ b.set j z) ≠ Crc.more 0 (P ++ b) := by
  intro h
  have hbj : b.getD j 0 = b[j] := by simp [hj]
  have hB : Bytes (b.drop (j + 1)) := hb.drop _
  have hx : Byte b[j] := hb _ (List.getElem_mem hj)
  have e1 : b.set j z = b.take j ++ z :: b.drop (j + 1) := List.set_eq_take_append_cons_drop .. |>.trans (by rw [if_pos hj])
  have e2 : b = b.take j ++ b[j] :: b.drop (j + 1) := by rw [← List.drop_eq_getElem_cons hj, List.take_append_drop]
  have hA : Bytes (P ++ b.take j) := hP.append (hb.take _)
  have hr := Crc.run_lt _ hA (Crc.inv 0) (Crc.inv_lt 0)
  rw [e1] at h
  conv at h => rhs; rw [e2]
  rw [← List.append_assoc, ← List.append_assoc] at h
  unfold Crc.more at h
  rw [Crc.run_append (Crc.inv 0) (P ++ b.take j) (z :: b.drop (j + 1)), Crc.run_append (Crc.inv 0) (P ++ b.take j) (b[j] :: b.drop (j + 1)), Crc.run_cons, Crc.run_cons] at h
  unfold Byte at hx hz
  have h2 := congrArg Crc.inv h
  rw [Crc.inv_inv (Crc.run_lt _ hB _ (Crc.stp_lt hr (by omega))), Crc.inv_inv (Crc.run_lt _ hB _ (Crc.stp_lt hr (by omega)))] at h2
  have h3 := Crc.run_inj hB (Crc.stp_lt hr (by omega)) (Crc.stp_lt hr (by omega)) h2
  have h4 := stp_inj' hr (by omega) (by omega) h3
  rw [hbj] at hne
  omega

theorem low_inj {s t : Nat} (hs : s < 4294967296) (ht : t < 4294967296) (h : Crc.low s = Crc.low t) : s = t := by
  unfold Crc.low at h
  simp only [List.cons.injEq, and_true] at h
  omega

theorem unf_turn {b : List Int} (hbb : Bytes b) (hb : b.length ≤ 65536) (k : Nat) (hk : k < (frame b).length) (z : Int) (hz : Byte z) (hne : z ≠ (frame b).getD k 0) {y : List Int} {m : Nat}
    (h : unf ((frame b).set k z) = .ok (y, m)) : m ≠ (frame b).length ∧ y.length ≠ b.length := by
  have hLB : Bytes ((frame b).set k z) := fun x hx => by
    rcases List.mem_or_eq_of_mem_set hx with h | h
    · exact frame_bytes hbb x h
    · rw [h]; exact hz
  have hlen : ((frame b).set k z).length = (put b.length).length + b.length + 4 := by rw [List.length_set, frame_len]
  by_cases hkp : k < (put b.length).length
  · unfold unf at h
    cases hr : rText ((frame b).set k z) with
    | error e => rw [hr] at h; cases h
    | ok p =>
      obtain ⟨lo, hi⟩ := p
      rw [hr] at h
      simp only at h
      split at h
      · cases h
      · split at h
        · injection h with h
          injection h with h1 h2
          obtain ⟨g1, g2, g3, g4, _, g6⟩ := rText_ok hLB hr
          have hyl : y.length = hi - lo := by rw [← h1, List.length_take, List.length_drop]; omega
          have hlo : lo = (put (hi - lo)).length := by
            have := congrArg List.length g6
            simp only [List.length_take, List.length_append, List.length_drop] at this
            omega
          have htk : ((frame b).set k z).take lo = put (hi - lo) := by
            have e1 := congrArg (List.take lo) g6
            rw [List.take_take, Nat.min_eq_left g1] at e1
            rw [e1]
            conv => lhs; rw [hlo]
            rw [← hlo]
            exact List.take_left' hlo.symm
          have hnn : hi - lo ≠ b.length := by
            intro e
            rw [e] at htk hlo
            have this : (((frame b).set k z).take lo).getD k 0 = (put b.length).getD k 0 := congrArg (fun q : List Int => q.getD k 0) htk
            have e1 : (((frame b).set k z).take lo).getD k 0 = z := by
              rw [List.getD_eq_getElem?_getD, List.getElem?_take, if_pos (by omega), List.getElem?_set_self (by omega)]
              rfl
            have e2 : (put b.length).getD k 0 = (frame b).getD k 0 := by
              rw [frame_eq, List.getD_eq_getElem?_getD, List.getD_eq_getElem?_getD, List.getElem?_append_left hkp]
            rw [e1, e2] at this
            exact hne this
          refine ⟨fun e => ?_, by rw [hyl]; exact hnn⟩
          rw [frame_len, ← h2] at e
          rcases Nat.lt_or_gt_of_ne hnn with hlt | hgt
          · have := put_mono _ _ (Nat.le_of_lt hlt)
            omega
          · have := put_mono _ _ (Nat.le_of_lt hgt)
            omega
        · cases h
  · exfalso
    have hg : (frame b).getD k 0 = (b ++ Crc.low (Crc.more 0 (head b))).getD (k - (put b.length).length) 0 := by
      rw [frame_eq, List.getD_eq_getElem?_getD, List.getD_eq_getElem?_getD, List.getElem?_append_right (by omega)]
    have hs : (frame b).set k z = put b.length ++ (b ++ Crc.low (Crc.more 0 (head b))).set (k - (put b.length).length) z := by
      rw [frame_eq, List.set_append, if_neg hkp]
    rw [frame_len] at hk
    obtain ⟨j, hj⟩ : ∃ j, j = k - (put b.length).length := ⟨_, rfl⟩
    rw [← hj] at hg hs
    have hml := Crc.more_lt 0 (head b)
    by_cases hjb : j < b.length
    · rw [List.set_append, if_pos hjb] at hs
      have hgb : (frame b).getD k 0 = b.getD j 0 := by
        rw [hg, List.getD_eq_getElem?_getD, List.getD_eq_getElem?_getD, List.getElem?_append_left hjb]
      rw [hgb] at hne
      have hl' : (b.set j z).length = b.length := by simp
      have hr : rText ((frame b).set k z) = .ok ((put b.length).length, (put b.length).length + b.length) := by
        rw [hs, ← hl']; exact rText_put (by rw [hl']; exact hb)
      unfold unf at h
      rw [hr] at h
      simp only at h
      rw [if_neg (by omega)] at h
      have t1 : ((frame b).set k z).take ((put b.length).length + b.length) = put b.length ++ b.set j z := by
        rw [hs, ← List.append_assoc]; exact List.take_left' (by simp)
      have t2 : (((frame b).set k z).drop ((put b.length).length + b.length)).take 4 = Crc.low (Crc.more 0 (head b)) := by
        rw [hs, ← List.append_assoc, List.drop_left' (by simp)]; exact List.take_of_length_le (by simp [low_len])
      rw [t1, t2] at h
      split at h
      · rename_i e
        exact more_set (put_bytes _) hbb hjb hz hne (low_inj (Crc.more_lt _ _) hml e)
      · cases h
    · rw [List.set_append, if_neg hjb] at hs
      have hgb : (frame b).getD k 0 = (Crc.low (Crc.more 0 (head b))).getD (j - b.length) 0 := by
        rw [hg, List.getD_eq_getElem?_getD, List.getD_eq_getElem?_getD, List.getElem?_append_right (by omega)]
      rw [hgb] at hne
      have hr : rText ((frame b).set k z) = .ok ((put b.length).length, (put b.length).length + b.length) := by
        rw [hs]; exact rText_put hb
      unfold unf at h
      rw [hr] at h
      simp only at h
      rw [if_neg (by omega)] at h
      have t1 : ((frame b).set k z).take ((put b.length).length + b.length) = head b := by
        rw [hs, ← List.append_assoc]; exact List.take_left' (by simp)
      have t2 : (((frame b).set k z).drop ((put b.length).length + b.length)).take 4 = (Crc.low (Crc.more 0 (head b))).set (j - b.length) z := by
        rw [hs, ← List.append_assoc, List.drop_left' (by simp)]; exact List.take_of_length_le (by simp [low_len])
      rw [t1, t2] at h
      split at h
      · rename_i e
        have this : (Crc.low (Crc.more 0 (head b))).getD (j - b.length) 0 = ((Crc.low (Crc.more 0 (head b))).set (j - b.length) z).getD (j - b.length) 0 := congrArg (fun q : List Int => q.getD (j - b.length) 0) e
        rw [List.getD_eq_getElem?_getD (l := List.set _ _ _), List.getElem?_set_self (by rw [low_len]; omega)] at this
        exact hne this.symm
      · cases h
end Go.Proofs.Ytmolldednpdicaa.Code
