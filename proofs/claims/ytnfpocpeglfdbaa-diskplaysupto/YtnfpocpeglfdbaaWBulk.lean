/-
  What the bulk of a row bounds.
-/
import Derived.Test.YtnfpocpeglfdbaaRows
namespace Go.Proofs.Ytnfpocpeglfdbaa
theorem bulk_one {H : Type} (d : DataW H) : 1 ≤ Rows.uptoBulk d := by
  cases d with
  | lit l => cases l <;> simp [Rows.uptoBulk]
  | _ => simp [Rows.uptoBulk]
theorem bulk_all {H : Type} (l : List (DataW H)) : l.length ≤ Rows.uptoBulkAll l := by
  induction l with
  | nil => exact Nat.zero_le _
  | cons d r ih =>
    have := bulk_one d
    simp only [List.length_cons, Rows.uptoBulkAll]
    omega
end Go.Proofs.Ytnfpocpeglfdbaa
