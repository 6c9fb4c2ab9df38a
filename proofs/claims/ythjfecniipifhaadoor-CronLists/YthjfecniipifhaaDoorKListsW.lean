/- The statement on two lists of minutes. -/
import Derived.Test.YthjfecniipifhaaDoorKLists
namespace Go.Proofs.YthjfecniipifhaaDoor
open Go.RowKit
set_option linter.unusedVariables false

theorem parse_tuple (t : ByteArray) (l : List UInt8) (ht : t.data.toList = l) (w : World) (hG : Gl w) :
    Calls Tryd.prog 10 #[.string t] w fun e w' => e = .returned (.tuple #[.agg #[.int .u64 (Cro.parse l).1.mi, .int .u64 (Cro.parse l).1.ho, .int .u64 (Cro.parse l).1.da, .int .u64 (Cro.parse l).1.mo, .int .u64 (Cro.parse l).1.we, .bool (Cro.parse l).1.ad, .bool (Cro.parse l).1.aw], .int .i64 (Cro.parse l).2.1, .int .i64 (Cro.parse l).2.2]) ∧ w.grownBy w' none := by
  subst ht
  exact Parse_any t w hG
theorem cronLists.walk (W : World) (hG : Gl W) (a : ByteArray) (ha : a.size ≤ 140737488355328) (b : ByteArray) (hb : b.size ≤ 140737488355328) (r : ByteArray) (hr : r.size ≤ 140737488355328) (v1 : Value) (o1 : ∃ y m d h n k, v1 = civ y m d h n k) :
    Calls Tryd.prog 6 #[.string a, .string b, .string r, v1] W fun e W' => e = .returned (.bool true) ∧ Below W.heap.size W W' := by
  obtain ⟨y, m, d, h, n, k, rfl⟩ := o1
  have t1 : (a ++ ⟨#[32]⟩ ++ r).data.toList = a.data.toList ++ 32 :: r.data.toList := by simp [ByteArray.data_append]
  have t2 : (b ++ ⟨#[32]⟩ ++ r).data.toList = b.data.toList ++ 32 :: r.data.toList := by simp [ByteArray.data_append]
  have t3 : (a ++ ⟨#[44]⟩ ++ b ++ ⟨#[32]⟩ ++ r).data.toList = (a.data.toList ++ 44 :: b.data.toList) ++ 32 :: r.data.toList := by simp [ByteArray.data_append]
  have la : a.data.toList.length = a.size := by simp
  have lb : b.data.toList.length = b.size := by simp
  have k1 := Cro.parse_ok64 (a.data.toList ++ 32 :: r.data.toList)
  have k2 := Cro.parse_ok64 (b.data.toList ++ 32 :: r.data.toList)
  have k3 := Cro.parse_ok64 ((a.data.toList ++ 44 :: b.data.toList) ++ 32 :: r.data.toList)
  have P1 := fun w hG => parse_tuple _ _ t1 w hG
  have P2 := fun w hG => parse_tuple _ _ t2 w hG
  have P3 := fun w hG => parse_tuple _ _ t3 w hG
  have HC : (∀ c ∈ a.data.toList ++ b.data.toList, Cro.blk c = false) → a.size = 0 ∨ b.size = 0 ∨ (Cro.parse (a.data.toList ++ 32 :: r.data.toList)).2.2 ≠ 0 ∨ (Cro.parse (b.data.toList ++ 32 :: r.data.toList)).2.2 ≠ 0 ∨
      ((Cro.parse (a.data.toList ++ 32 :: r.data.toList)).2.2 = 0 ∧ (Cro.parse (b.data.toList ++ 32 :: r.data.toList)).2.2 = 0 ∧
        ((256 < ((a.data.toList ++ 44 :: b.data.toList) ++ 32 :: r.data.toList).length ∧ Cro.parse ((a.data.toList ++ 44 :: b.data.toList) ++ 32 :: r.data.toList) = (Cro.zero, 0, 2)) ∨
        ((Cro.parse ((a.data.toList ++ 44 :: b.data.toList) ++ 32 :: r.data.toList)).2.2 = 0 ∧ (Cro.parse ((a.data.toList ++ 44 :: b.data.toList) ++ 32 :: r.data.toList)).1 = { (Cro.parse (a.data.toList ++ 32 :: r.data.toList)).1 with mi := (Cro.parse (a.data.toList ++ 32 :: r.data.toList)).1.mi ||| (Cro.parse (b.data.toList ++ 32 :: r.data.toList)).1.mi } ∧
          (Cro.parse (b.data.toList ++ 32 :: r.data.toList)).1 = { (Cro.parse (a.data.toList ++ 32 :: r.data.toList)).1 with mi := (Cro.parse (b.data.toList ++ 32 :: r.data.toList)).1.mi }))) := fun hno => by
    by_cases ha0 : a.size = 0
    · exact .inl ha0
    · by_cases hb0 : b.size = 0
      · exact .inr (.inl hb0)
      · by_cases hx : (Cro.parse (a.data.toList ++ 32 :: r.data.toList)).2.2 = 0
        · by_cases hy : (Cro.parse (b.data.toList ++ 32 :: r.data.toList)).2.2 = 0
          · exact .inr (.inr (.inr (.inr ⟨hx, hy, Cro.lists (fun c hc => hno c (List.mem_append_left _ hc)) (fun c hc => hno c (List.mem_append_right _ hc)) (fun e => ha0 (by rw [← la, e]; rfl)) (fun e => hb0 (by rw [← lb, e]; rfl)) hx hy⟩)))
          · exact .inr (.inr (.inr (.inl hy)))
        · exact .inr (.inr (.inl hx))
  have rx := fun h => Cro.parse_right (l := a.data.toList ++ 32 :: r.data.toList) h
  have ry := fun h => Cro.parse_right (l := b.data.toList ++ 32 :: r.data.toList) h
  have rz := fun h => Cro.parse_right (l := (a.data.toList ++ 44 :: b.data.toList) ++ 32 :: r.data.toList) h
  generalize Cro.parse (a.data.toList ++ 32 :: r.data.toList) = px at *
  generalize Cro.parse (b.data.toList ++ 32 :: r.data.toList) = py at *
  generalize Cro.parse ((a.data.toList ++ 44 :: b.data.toList) ++ 32 :: r.data.toList) = pz at *
  refine (lists_by a b r ha hb hr y m d h n k px.1.mi px.1.ho px.1.da px.1.mo px.1.we py.1.mi py.1.ho py.1.da py.1.mo py.1.we pz.1.mi pz.1.ho pz.1.da pz.1.mo pz.1.we px.2.1 py.2.1 pz.2.1 px.1.ad px.1.aw py.1.ad py.1.aw pz.1.ad pz.1.aw px.2.2 py.2.2 pz.2.2
    (px.1.fits y m d h n k) (py.1.fits y m d h n k) (pz.1.fits y m d h n k) k1.mi k2.mi (fun hno => ?_) P1 P2 P3 (fun w hG => Fits_any px.1 k1 y m d h n k w hG) (fun w hG => Fits_any py.1 k2 y m d h n k w hG) (fun w hG => Fits_any pz.1 k3 y m d h n k w hG) W hG).mono ?_
  · rcases HC hno with h' | h' | h' | h' | ⟨h1, h2, ⟨_, h3⟩ | ⟨h3, h4, h5⟩⟩
    · exact .noA h'
    · exact .noB h'
    · exact .bad1 h'
    · by_cases e : px.2.2 = 0
      · exact .bad2 e h'
      · exact .bad1 e
    · exact .long h1 h2 (by rw [h3])
    · refine .good h1 h2 h3 (by rw [h4]) (by rw [h4]) (by rw [h4]; show px.1.we = py.1.we; rw [h5]) ?_
      have e1 : px.1 = { px.1 with mi := px.1.mi } := rfl
      have a1 := rx h1
      have a2 := ry h2
      have a3 := rz h3
      rw [h5] at a2
      rw [h4] at a3
      rw [h4, Cro.fits_or (c := px.1) a1 a2 a3, ← h5]
  · rintro e W' ⟨rfl, hg⟩
    exact ⟨rfl, grown_below hg⟩
end Go.Proofs.YthjfecniipifhaaDoor
