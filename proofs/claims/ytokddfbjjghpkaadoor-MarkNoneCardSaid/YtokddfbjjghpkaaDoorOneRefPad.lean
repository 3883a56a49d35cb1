/-
  What stands behind bytes: the document's own.
-/
import Derived.Test.YtokddfbjjghpkaaDoorOneHigh
namespace Go.Proofs.YtokddfbjjghpkaaDoor
open Go.RowKit

end Go.Proofs.YtokddfbjjghpkaaDoor
