/-
  What stands behind bytes: the document's own.
-/
import Derived.Test.YtpliknofjgbfjaaOneHigh
namespace Go.Proofs.Ytpliknofjgbfjaa
open Go.RowKit

end Go.Proofs.Ytpliknofjgbfjaa
