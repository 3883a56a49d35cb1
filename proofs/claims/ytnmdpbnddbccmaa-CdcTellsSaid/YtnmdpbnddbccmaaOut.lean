/-
  The writer of package bits: how it lies in memory, and its two inner calls: what each leaves.
-/
import Derived.Test.YtnmdpbnddbccmaaProg
import Derived.Test.YtnmdpbnddbccmaaWords
import Derived.Test.YtnmdpbnddbccmaaOutPure
import Derived.Test.YtnmdpbnddbccmaaShelf
import Derived.BigQuiet
import Derived.Deep.QuietTactic
import Derived.Outline
namespace Go.Proofs.Ytnmdpbnddbccmaa
open Go.RowKit

def cat : List (Nat × ByteArray) → List UInt8
  | [] => []
  | (_, s) :: r => cat r ++ s.data.toList
end Go.Proofs.Ytnmdpbnddbccmaa
