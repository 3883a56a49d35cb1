/-
  The statements' first call of package fixed, and lists of spans that came in. No statement is proved here.
-/
import Derived.Test.YtkcjiogackkecaaFixed
import Derived.Test.YtkcjiogackkecaaViews
import Derived.Lib.SmallJoins
import Derived.Deep.SlicePairs
import Derived.Deep.Slices
namespace Go.Proofs.Ytkcjiogackkecaa
open Go.RowKit

theorem cut_two : cutS 4 5 = [(0, 4), (4, 5)] := by decide +kernel
theorem whole_two : wholeB 5 [(0, 4), (4, 5)] = true := by decide +kernel

end Go.Proofs.Ytkcjiogackkecaa
