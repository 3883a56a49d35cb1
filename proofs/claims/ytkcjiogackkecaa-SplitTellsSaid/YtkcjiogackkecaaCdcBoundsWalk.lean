/-
  CdcBounds, walked. No statement is proved here.
-/
import Derived.Test.YtkcjiogackkecaaCdcAlive
import Derived.Deep.CutRange
import Derived.Deep.Cut
namespace Go.Proofs.Ytkcjiogackkecaa
open Go.RowKit

/-- A rule's block. -/
abbrev RuleAt (w : World) (g : Nat) (R : RuleN) : Prop := Blk w g 23 #[.int .i64 R.mn, .int .i64 R.md, .int .i64 R.mx, .int .i64 R.hd, .int .i64 R.sf]
theorem cat1 (s : ByteArray) : cats [s] = s.data.toList := by simp [cats]
theorem cutL_int {R : RuleN} {l : List UInt8} {i : Nat} {x0 x1 : Int} (hx : (cutL R 0 l)[i]? = some (x0, x1)) : 0 ≤ x0 ∧ x0 < x1 ∧ x1 ≤ (l.length : Int) := by
  obtain ⟨f, e0, e1, e2, -⟩ := cutL_at R 0 l i x0 x1 hx
  have hne : l.drop f ≠ [] := by
    intro e
    have := congrArg List.length e
    rw [List.length_drop, List.length_nil] at this
    omega
  have h1 := firstL_pos R _ hne
  have h2 := firstL_le R (l.drop f)
  rw [List.length_drop] at h2
  omega

end Go.Proofs.Ytkcjiogackkecaa
