/- A new slice read as bytes; what making a table leaves as it was. -/
import Derived.Test.YtmolldednpdicaaMore
namespace Go.Proofs.Ytmolldednpdicaa
open Go.RowKit

/-- A slice over the whole of the last new block, whose cells are the bytes l. -/
theorem rd_new (w : World) (l : List Int) (fr : Nat × Nat) (t : TypeId) (C : Array Value) (hC : C = (l.map (Value.int .u8)).toArray) (hl : l.length ≤ 9223372036854775807) (hb : Crc.Bytes l) (n cap : Nat) (hn : n = w.heap.size) :
    Rd (w.alloc (.cells C t fr)) (.slice (some ⟨n, 0, none⟩) l.length cap) l := by
  subst hn hC
  refine ⟨hb, hl, .inr ⟨w.heap.size, 0, cap, rfl, fun i hi => ?_⟩⟩
  rw [World.cell?_alloc_mark]
  simp [hi]

theorem made_below {w w' : World} {tb B : Nat} (h : Made w w' tb) (hB : B ≤ tb) (hs : B ≤ w.heap.size) : Below B w w' :=
  ⟨h.grown.os, h.grown.tape, h.grown.output, h.grown.size, fun k hk => h.grown.block k (by omega) (by simp; omega)⟩

end Go.Proofs.Ytmolldednpdicaa
