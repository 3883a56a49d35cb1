/-
  The writer of package bits: how it lies in memory, and its two inner calls: what each leaves.
-/
import Derived.Test.YtbaanoomilohhaaProg
import Derived.Test.YtbaanoomilohhaaWords
import Derived.Test.YtbaanoomilohhaaOutPure
import Derived.Test.YtbaanoomilohhaaShelf
import Derived.BigQuiet
import Derived.Deep.QuietTactic
import Derived.Outline
namespace Go.Proofs.Ytbaanoomilohhaa
open Go.RowKit

def cat : List (Nat × ByteArray) → List UInt8
  | [] => []
  | (_, s) :: r => cat r ++ s.data.toList
end Go.Proofs.Ytbaanoomilohhaa
