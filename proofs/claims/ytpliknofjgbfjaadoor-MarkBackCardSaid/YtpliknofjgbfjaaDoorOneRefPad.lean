/-
  What stands behind bytes: the document's own.
-/
import Derived.Test.YtpliknofjgbfjaaDoorOneHigh
namespace Go.Proofs.YtpliknofjgbfjaaDoor
open Go.RowKit

end Go.Proofs.YtpliknofjgbfjaaDoor
