/- What a bound on a reading's bulk says of a slice's length. -/
import Derived.Test.YtmolldednpdicaaCArgs
import Derived.Test.YtmolldednpdicaaRows
namespace Go.Proofs.Ytmolldednpdicaa

theorem bulk_pos {H : Type} (d : DataW H) : 1 ≤ Rows.uptoBulk d := by
  cases d with
  | lit x => cases x <;> simp [Rows.uptoBulk]
  | nil => simp [Rows.uptoBulk]
  | ptr d => simp [Rows.uptoBulk]
  | slice e s => simp [Rows.uptoBulk]
  | agg p => simp [Rows.uptoBulk]
  | iface t d => simp [Rows.uptoBulk]
  | map e => simp [Rows.uptoBulk]
  | held h => simp [Rows.uptoBulk]
theorem bulkAll_len {H : Type} (ds : List (DataW H)) : ds.length ≤ Rows.uptoBulkAll ds := by
  induction ds with
  | nil => simp
  | cons d ds ih => have := bulk_pos d; rw [Rows.uptoBulkAll, List.length_cons]; omega
theorem elems_le {H : Type} {d : DataW H} {n : Nat} (h : Elems d n) : n ≤ Rows.uptoBulk d := by
  rcases h with ⟨_, rfl⟩ | ⟨e, s, rfl, rfl⟩
  · exact Nat.zero_le _
  · have := bulkAll_len e
    rw [Rows.uptoBulk]
    omega
end Go.Proofs.Ytmolldednpdicaa
