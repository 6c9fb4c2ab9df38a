/- What 'item' answers, by the text's own form. -/
import Derived.Test.YteiiapnpdfgoaaaDoorKItem
namespace Go.Proofs.YteiiapnpdfgoaaaDoor
open Go.RowKit

theorem one_text : Cro.num [49] = some 1 := by decide
theorem cut_parts (t : ByteArray) (c : UInt8) (hs : t.size < 4294967281) : (⟨(Lib.cut t.data.toList [c]).1.toArray⟩ : ByteArray).size < 4294967281 ∧ (⟨(Lib.cut t.data.toList [c]).2.1.toArray⟩ : ByteArray).size < 4294967281 := by
  have h := cut_len t.data.toList [c]
  have hsz : t.data.toList.length = t.size := by simp
  rw [ba_size, ba_size]
  omega

theorem cut_slash (t : ByteArray) (k : Bool) (hk : (Lib.cut t.data.toList [47]).2.2 = k) (hs : t.size < 4294967281) (w : World) (hm : Mx w) :
    Calls Tryd.prog 52 #[.string t, .string ⟨#[47]⟩] w fun e w' => e = .returned (.tuple #[.string ⟨(Lib.cut t.data.toList [47]).1.toArray⟩, .string ⟨(Lib.cut t.data.toList [47]).2.1.toArray⟩, .bool k]) ∧ w.grownBy w' none := by
  subst hk
  exact cut_any t ⟨#[47]⟩ w hs hm

theorem item_some (f : Cro.Sp) (t : ByteArray) (i : Cro.It) (h : Cro.itm f t.data.toList = some i) (hs : t.size < 4294967281) (w : World) (hm : Mx w) :
    Calls Tryd.prog 43 #[spn f, .string t] w fun e w' => e = .returned (.tuple #[itv i, .bool true]) ∧ w.grownBy w' none := by
  unfold Cro.itm at h
  have hp := cut_parts t 47 hs
  split at h
  · rename_i hk
    split at h
    · rename_i p q s e1 e2
      injection h with h
      subst h
      exact item_step f t _ _ p q s true true w (cut_slash t true hk hs) (fun w hm => bounds_some f _ p q e1 w hp.1 hm) (number_some _ _ e2) hm
    · cases h
  · rename_i hk
    have hk' : (Lib.cut t.data.toList [47]).2.2 = false := by simpa using hk
    split at h
    · rename_i n e1
      injection h with h
      subst h
      exact item_number f t _ _ n w (cut_slash t false hk' hs) (number_some _ _ e1) hm
    · rename_i e1
      split at h
      · rename_i p q e2
        injection h with h
        subst h
        exact item_bare f t _ _ p q true w (cut_slash t false hk' hs) (fun w hm => bounds_some f _ p q e2 w hp.1 hm) (number_none _ (by have := hp.1; omega) e1) (number_some ⟨#[49]⟩ 1 one_text) hm
      · cases h

theorem item_none (f : Cro.Sp) (t : ByteArray) (h : Cro.itm f t.data.toList = none) (hs : t.size < 4294967281) : ∃ i, ∀ w, Mx w →
    Calls Tryd.prog 43 #[spn f, .string t] w fun e w' => e = .returned (.tuple #[itv i, .bool false]) ∧ w.grownBy w' none := by
  unfold Cro.itm at h
  have hp := cut_parts t 47 hs
  by_cases hk : (Lib.cut t.data.toList [47]).2.2 = true
  · rw [if_pos hk] at h
    cases e1 : Cro.bnds f (Lib.cut t.data.toList [47]).1 with
    | none =>
      obtain ⟨p, q, HB⟩ := bounds_none f ⟨(Lib.cut t.data.toList [47]).1.toArray⟩ e1 hp.1
      cases e2 : Cro.num (Lib.cut t.data.toList [47]).2.1 with
      | none => exact ⟨_, fun w hm => item_step f t _ _ p q 0 false false w (cut_slash t true hk hs) HB (number_none _ (by have := hp.2; omega) e2) hm⟩
      | some s => exact ⟨_, fun w hm => item_step f t _ _ p q s false true w (cut_slash t true hk hs) HB (number_some _ _ e2) hm⟩
    | some x =>
      obtain ⟨p, q⟩ := x
      cases e2 : Cro.num (Lib.cut t.data.toList [47]).2.1 with
      | none => exact ⟨_, fun w hm => item_step f t _ _ p q 0 true false w (cut_slash t true hk hs) (fun w hm => bounds_some f _ p q e1 w hp.1 hm) (number_none _ (by have := hp.2; omega) e2) hm⟩
      | some s => rw [e1, e2] at h; cases h
  · rw [if_neg hk] at h
    have hk' : (Lib.cut t.data.toList [47]).2.2 = false := by simpa using hk
    cases e1 : Cro.num (Lib.cut t.data.toList [47]).1 with
    | some n => rw [e1] at h; cases h
    | none =>
      cases e2 : Cro.bnds f (Lib.cut t.data.toList [47]).1 with
      | some x => rw [e1, e2] at h; cases h
      | none =>
        obtain ⟨p, q, HB⟩ := bounds_none f ⟨(Lib.cut t.data.toList [47]).1.toArray⟩ e2 hp.1
        exact ⟨_, fun w hm => item_bare f t _ _ p q false w (cut_slash t false hk' hs) HB (number_none _ (by have := hp.1; omega) e1) (number_some ⟨#[49]⟩ 1 one_text) hm⟩
end Go.Proofs.YteiiapnpdfgoaaaDoor
