/- Parts of the walk of 'CrcThree': the three lists put together, and the sums of the last statement, in whatever state the table is. -/
import Derived.Test.YtcgfeinpendhnaaTurnedWalk
import Derived.Test.YtcgfeinpendhnaaThreeMath
import Derived.Deep.RegionWith
namespace Go.Proofs.Ytcgfeinpendhnaa
open Go.RowKit

theorem made_zeros (n : Nat) : (madeCells (Value.int .u8 0).cells (n * 1)).toList = (List.replicate n (0 : Int)).map (Value.int .u8) := by
  apply List.ext_getElem
  · simp [madeCells]
  · intro i h1 h2
    simp [madeCells, Value.cells, Nat.mod_one]

theorem own_made {w : World} {base g n : Nat} (h : w.ownsRow base 5 1 (.slice (some ⟨g, 0, none⟩) n n) n (madeCells (Value.int .u8 0).cells (n * 1)).toList) : Own w base (.slice (some ⟨g, 0, none⟩) n n) (List.replicate n 0) := by
  rw [made_zeros] at h
  refine ⟨by simpa using h, fun x hx => ?_⟩
  have := List.eq_of_mem_replicate hx
  subst this
  exact Crc.byte_nat (n := 0) (by decide)

def part (a b c : List Int) (n k : Nat) : List Int := Crc.mix a b c k ++ List.replicate (n - k) 0
theorem part_zero (a b c : List Int) (n : Nat) : part a b c n 0 = List.replicate n 0 := by simp [part, Crc.mix]
theorem part_all (a b c : List Int) (n : Nat) : part a b c n n = Crc.mix a b c n := by simp [part]
theorem part_succ (a b c : List Int) (n k : Nat) (hk : k < n) :
    (part a b c n k).set k (((a.getD k 0).toNat ^^^ (b.getD k 0).toNat ^^^ (c.getD k 0).toNat : Nat) : Int) = part a b c n (k + 1) := by
  unfold part
  rw [Crc.mix_succ, List.set_append_right _ _ (by simp [Crc.mix_length])]
  rw [Crc.mix_length, Nat.sub_self, show n - k = (n - (k + 1)) + 1 by omega, List.replicate_succ, List.set_cons_zero, List.append_assoc]
  rfl

/-- A slice of at least one byte, and its cells. -/
theorem rd_at {w : World} {a : Option Addr} {cap : Nat} {l : List Int} (h : Rd w (.slice a l.length cap) l) (hl : 0 < l.length) :
    ∃ b off, a = some ⟨b, off, none⟩ ∧ b < w.heap.size ∧ ∀ i, i < l.length → w.cell? ⟨b, off + i, none⟩ = some (.int .u8 ((l.getD i 0).toNat : Nat)) := by
  rcases h.val with ⟨rfl, _⟩ | ⟨b, off, c, e, hc⟩
  · simp at hl
  · simp only [Value.slice.injEq] at e
    refine ⟨b, off, e.1, World.block_lt_of_cell? w _ (hc 0 hl), fun i hi => ?_⟩
    rw [hc i hi, Int.toNat_of_nonneg (h.bytes.nonneg i)]

theorem own_mix {w : World} {base g n k x y z : Nat} {la lb lc : List Int} (h : Own w base (.slice (some ⟨g, 0, none⟩) n n) (part la lb lc n k)) (ha : Crc.Bytes la) (hb : Crc.Bytes lb) (hc : Crc.Bytes lc) (hk : k < n)
    (hx : x = (la.getD k 0).toNat) (hy : y = (lb.getD k 0).toNat) (hz : z = (lc.getD k 0).toNat) :
    Own (w.setCell ⟨g, k, none⟩ (.int .u8 (bits BinOp.xor IntKind.u8 (bits BinOp.xor IntKind.u8 (x : Int) (y : Int)) (z : Int)))).drew base (.slice (some ⟨g, 0, none⟩) n n) (part la lb lc n (k + 1)) := by
  have bx : x < 256 := by rw [hx]; exact ha.getD _
  have b_y : y < 256 := by rw [hy]; exact hb.getD _
  have bz : z < 256 := by rw [hz]; exact hc.getD _
  rw [u8_xor_nat x y bx b_y, u8_xor_nat (x ^^^ y) z (Crc.xor_lt 8 bx b_y) bz, ← part_succ la lb lc n k hk, ← hx, ← hy, ← hz]
  exact own_store h k (x ^^^ y ^^^ z) (Crc.xor_lt 8 (Crc.xor_lt 8 bx b_y) bz)

/-- Between the calls of the last statement: nothing old has turned, the call's own bytes are there, the table is asked or is not. -/
structure St (w W : World) (tb base : Nat) (x : Value) (lx : List Int) : Prop where
  below : Below w.heap.size w W
  own : Own W base x lx
  tab : Fresh W tb ∨ Ready W tb
theorem St.drew {w W : World} {tb base : Nat} {x : Value} {lx : List Int} (h : St w W tb base x lx) : St w W.drew tb base x lx :=
  ⟨h.below.drew, ⟨h.own.row.drew, h.own.bytes⟩, h.tab.elim (fun f => .inl ⟨f.done, f.lock, f.steps, f.free⟩) (fun r => .inr ⟨r.done, r.steps⟩)⟩
theorem St.made {w W W' : World} {tb base : Nat} {x : Value} {lx : List Int} (h : St w W tb base x lx) (hM : Made W W' tb) (hx : x.ownBlock ≠ some tb) (htb : w.heap.size ≤ tb) : St w W' tb base x lx :=
  ⟨h.below.trans (made_below hM htb h.below.size), h.own.grown hM.grown (.inr hx), .inr hM.ready⟩

theorem st_sum {w W : World} {tb base : Nat} {x : Value} {lx : List Int} (h : St w W tb base x lx) (hx : x.ownBlock ≠ some tb) (htb : w.heap.size ≤ tb) (v : Value) (l : List Int) (hv : ∀ W', St w W' tb base x lx → Rd W' v l) (m : Nat) (hm : Crc.more 0 l = m) :
    Calls Try.prog 12 #[.pointer (some ⟨tb, 0, none⟩), v] W fun e W' => e = .returned (.int .u32 (m : Nat)) ∧ St w W' tb base x lx := by
  subst hm
  rcases h.tab with hF | hR
  · refine (sum_of tb v l W _ (more_rd tb 0 (by decide) v l W _ (hv W h) (ask_first tb W hF) fun W' hM => ⟨hM.ready, hv W' (h.made hM hx htb)⟩)).mono fun e W' ⟨he, hM⟩ => ?_
    exact ⟨he, h.made hM hx htb⟩
  · refine (sum_again tb v l W (hv W h) hR).mono fun e W' ⟨he, hM⟩ => ?_
    subst hM
    exact ⟨he, h⟩

/-- The first n bytes of a slice. -/
theorem rd_take {w : World} {a : Option Addr} {cap n : Nat} {l : List Int} (h : Rd w (.slice a l.length cap) l) (hn : n ≤ l.length) : Rd w (.slice a n cap) (l.take n) := by
  have hlen : (l.take n).length = n := by simp; omega
  refine ⟨h.bytes.take n, by have := h.len; omega, ?_⟩
  rcases h.val with ⟨rfl, e | ⟨x, c, e⟩⟩ | ⟨b, off, c, e, hc⟩
  · simp at hn
    subst hn
    exact .inl ⟨by simp, .inl (by simpa using e)⟩
  · simp at hn
    subst hn
    exact .inl ⟨by simp, .inr ⟨x, c, by simpa using e⟩⟩
  · simp only [Value.slice.injEq, true_and] at e
    refine .inr ⟨b, off, cap, by rw [e.1, hlen], fun i hi => ?_⟩
    rw [hc i (by omega)]
    simp [show i < n by omega]

theorem xor_three (m1 m2 m3 : Nat) (h1 : m1 < 4294967296) (h2 : m2 < 4294967296) (h3 : m3 < 4294967296) : bits BinOp.xor IntKind.u32 (bits BinOp.xor IntKind.u32 (m1 : Int) (m2 : Int)) (m3 : Int) = ((m1 ^^^ m2 ^^^ m3 : Nat) : Int) := by
  rw [u32_xor_nat m1 m2 h1 h2, u32_xor_nat (m1 ^^^ m2) m3 (Crc.xor_lt 32 h1 h2) h3]

end Go.Proofs.Ytcgfeinpendhnaa
