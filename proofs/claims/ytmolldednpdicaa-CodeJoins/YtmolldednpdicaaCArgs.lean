/- How slices of fields, of kinds and of bytes that came in are read. -/
import Derived.Test.YtmolldednpdicaaCDecode
import Derived.Test.YtmolldednpdicaaArgs
import Derived.Deep.Strs
namespace Go.Proofs.Ytmolldednpdicaa
open Go.ChangeShapes Go.WideShapes Go.ChangeAt Go.RowKit

theorem cellsField : Try.prog.cellsOf 38 = 3 := by kernel_rfl
theorem cellsInt : Try.prog.cellsOf 3 = 1 := by kernel_rfl
theorem cellsI64 : Try.prog.cellsOf 2 = 1 := by kernel_rfl
theorem cellsStr : Try.prog.cellsOf 9 = 1 := by kernel_rfl

/-- What a datum holds, where it was read as a slice of n elements. -/
def Elems {H : Type} (d : DataW H) (n : Nat) : Prop := (d = .nil ∧ n = 0) ∨ ∃ elems spare, d = .slice elems spare ∧ elems.length = n

theorem field_cells {H : Type} {enc : TypeId × Value → H} {W : World} {base fuel : Nat} {spare : Nat → Bool} {held : Bool} {cs : List Value} {x : DataW H × List MemPlace}
    (h : DataW.trod enc Try.prog W base spare held fuel 38 cs = some x) : ∃ f : Code.Fd, cs = [.int .i64 f.k, .int .i64 f.n, .string f.s] ∧ Code.In64 f.n := by
  obtain ⟨y0, y1, y2, n, _, hl, h0, h1, h2⟩ := Go.Deep.trod_struct3 Try.underlying38 h
  rw [cellsField] at hl
  match cs, hl with
  | [c0, c1, c2], _ =>
    simp only [cellsInt, cellsI64, cellsStr, List.drop_zero, List.drop_succ_cons, List.take_succ_cons, List.take_zero] at h0 h1 h2
    obtain ⟨k, e0, _, _⟩ := DataW.trod_int Try.underlying3 h0
    obtain ⟨n, e1, _, w1⟩ := DataW.trod_int Try.underlying2 h1
    obtain ⟨s, e2, _, _⟩ := DataW.trod_string Try.underlying9 h2
    have := bounds_i64 w1
    refine ⟨⟨k, n, s⟩, ?_, ?_⟩
    · simp at e0 e1 e2; rw [e0, e1, e2]
    · unfold Code.In64; simp only; omega

theorem open_fl {H : Type} {enc : TypeId × Value → H} {W : World} {r : Reach} {base : Nat} {v : Value} {d : DataW H} {p : List MemPlace}
    (hv : Value.okWide Try.prog W r base 22 v) (h : DataW.Trod enc Try.prog W 0 (fun _ => true) true 22 v d p) :
    ∃ fs : List Code.Fd, Fl W v fs ∧ Elems d fs.length ∧ ∃ a c, v = .slice a fs.length c ∧ fs.length ≤ c ∧ c ≤ 9223372036854775807 := by
  obtain ⟨a, len, cap, rfl⟩ := okWide_slice Try.underlying22 hv
  obtain ⟨fuel, hf⟩ := h
  rcases Go.Deep.open_slice Try.underlying22 hf with ⟨hcs, hx⟩ | ⟨x, l, c, m, n, D, Pl, hcs, hb, hl, hm, hmm, hx, hall⟩
  · simp [Value.cells] at hcs
    obtain ⟨rfl, rfl, rfl⟩ := hcs
    simp only [Prod.mk.injEq] at hx
    exact ⟨[], ⟨fun _ h => (List.not_mem_nil h).elim, .inl ⟨rfl, .inl rfl⟩⟩, .inl ⟨hx.1, rfl⟩, none, 0, rfl, Nat.le_refl _, by decide⟩
  · simp [Value.cells] at hcs
    obtain ⟨rfl, rfl, rfl⟩ := hcs
    simp only [Prod.mk.injEq] at hx
    have hlm : len ≤ m := by rw [hmm]; simp; exact hl
    have each : ∀ i, i < len → ∃ f : Code.Fd, Code.In64 f.n ∧ W.cell? (x.add (i * 3)) = some (.int .i64 f.k) ∧ W.cell? (x.add (i * 3 + 1)) = some (.int .i64 f.n) ∧ W.cell? (x.add (i * 3 + 2)) = some (.string f.s) := by
      intro i hi
      obtain ⟨cs', h1, h2⟩ := hall i (by omega)
      rw [cellsField] at h1
      obtain ⟨f, rfl, hn⟩ := field_cells h2
      obtain ⟨_, hlen, hcell⟩ := World.cells?_some h1
      refine ⟨f, hn, ?_, ?_, ?_⟩
      · have := hcell 0 (by simp); rw [Go.Deep.add_add] at this; simpa using this
      · have := hcell 1 (by simp); rw [Go.Deep.add_add] at this; simpa using this
      · have := hcell 2 (by simp); rw [Go.Deep.add_add] at this; simpa using this
    have hinh : Inhabited Code.Fd := ⟨⟨0, 0, ⟨#[]⟩⟩⟩
    obtain ⟨F, hF⟩ := Go.Deep.choose_lt each
    refine ⟨(List.range len).map F, ⟨?_, ?_⟩, .inr ⟨_, _, hx.1, by simp⟩, some x, cap, by simp, by simpa using hl, hm⟩
    · intro f hf
      obtain ⟨i, hi, rfl⟩ := List.mem_map.1 hf
      exact (hF i (List.mem_range.1 hi)).1
    · by_cases h0 : 0 < len
      · obtain ⟨b, off, spot⟩ := x
        have hspot : spot = none := by simpa [Addr.add] using World.cell?_spot (hF 0 h0).2.1
        subst hspot
        refine .inr ⟨b, off, cap, by simp, fun i hi => ?_⟩
        have hi' : i < len := by simpa using hi
        obtain ⟨_, g1, g2, g3⟩ := hF i hi'
        rw [Addr.add_lit] at g1 g2 g3
        simp only [List.getElem_map, List.getElem_range]
        exact ⟨g1, by rw [Nat.add_assoc]; exact g2, by rw [Nat.add_assoc]; exact g3⟩
      · obtain rfl : len = 0 := by omega
        exact .inl ⟨by simp, .inr ⟨x, cap, by simp⟩⟩

theorem open_ki {H : Type} {enc : TypeId × Value → H} {W : World} {r : Reach} {base : Nat} {v : Value} {d : DataW H} {p : List MemPlace}
    (hv : Value.okWide Try.prog W r base 30 v) (h : DataW.Trod enc Try.prog W 0 (fun _ => true) true 30 v d p) :
    ∃ ks : List Int, Ki W v ks ∧ Elems d ks.length := by
  obtain ⟨a, len, cap, rfl⟩ := okWide_slice Try.underlying30 hv
  obtain ⟨fuel, hf⟩ := h
  rcases open_ints Try.underlying30 Try.underlying3 (by kernel_rfl) hf with ⟨hcs, hx⟩ | ⟨x, l, c, zs, hcs, _, hl, hm, hz, hx, hcell, hwz⟩
  · simp [Value.cells] at hcs
    obtain ⟨rfl, rfl, rfl⟩ := hcs
    simp only [Prod.mk.injEq] at hx
    exact ⟨[], ⟨.inl ⟨rfl, none, 0, rfl⟩⟩, .inl ⟨hx.1, rfl⟩⟩
  · simp [Value.cells] at hcs
    obtain ⟨rfl, rfl, rfl⟩ := hcs
    simp only [Prod.mk.injEq] at hx
    have hz' : zs.length = cap := by simpa using hz
    have hlen : (zs.take len).length = len := by simp; omega
    refine ⟨zs.take len, ⟨?_⟩, .inr ⟨_, _, hx.1, by simp [lits]⟩⟩
    by_cases h0 : 0 < len
    · obtain ⟨b, off, rfl, hc⟩ := ints_at hcell (by omega)
      refine .inr ⟨b, off, cap, by rw [hlen], fun i hi => ?_⟩
      rw [hc i (by omega)]
      simp [show i < len by omega]
    · have e : len = 0 := by omega
      subst e
      exact .inl ⟨by simp, some x, cap, rfl⟩

theorem open_sl {H : Type} {enc : TypeId × Value → H} {W : World} {r : Reach} {base : Nat} {v : Value} {d : DataW H} {p : List MemPlace}
    (hv : Value.okWide Try.prog W r base 23 v) (h : DataW.Trod enc Try.prog W 0 (fun _ => true) true 23 v d p) :
    ∃ l : List Int, Sl W v l ∧ Elems d l.length := by
  obtain ⟨a, len, cap, rfl⟩ := okWide_slice Try.underlying23 hv
  obtain ⟨fuel, hf⟩ := h
  rcases open_ints Try.underlying23 Try.underlying5 (by kernel_rfl) hf with ⟨hcs, hx⟩ | ⟨x, l, c, zs, hcs, _, hl, hm, hz, hx, hcell, hwz⟩
  · simp [Value.cells] at hcs
    obtain ⟨rfl, rfl, rfl⟩ := hcs
    simp only [Prod.mk.injEq] at hx
    exact ⟨[], ⟨rd_nil W, none, 0, rfl, Nat.le_refl _, by decide⟩, .inl ⟨hx.1, rfl⟩⟩
  · simp [Value.cells] at hcs
    obtain ⟨rfl, rfl, rfl⟩ := hcs
    simp only [Prod.mk.injEq] at hx
    have hz' : zs.length = cap := by simpa using hz
    have hlen : (zs.take len).length = len := by simp; omega
    have hb : Crc.Bytes zs := fun n hn => by
      have := bounds_u8 (hwz n hn)
      unfold Crc.Byte
      omega
    have hm' : cap ≤ 9223372036854775807 := hm
    refine ⟨zs.take len, ⟨⟨hb.take _, by omega, ?_⟩, ⟨some x, cap, by rw [hlen], by omega, hm'⟩⟩, .inr ⟨_, _, hx.1, by simp [lits]⟩⟩
    by_cases h0 : 0 < len
    · obtain ⟨b, off, rfl, hc⟩ := ints_at hcell (by omega)
      refine .inr ⟨b, off, cap, by rw [hlen], fun i hi => ?_⟩
      rw [hc i (by omega)]
      simp [show i < len by omega]
    · have e : len = 0 := by omega
      subst e
      exact .inl ⟨by simp, .inr ⟨x, cap, rfl⟩⟩
end Go.Proofs.Ytmolldednpdicaa
