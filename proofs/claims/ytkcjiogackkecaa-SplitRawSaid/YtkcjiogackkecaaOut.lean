/-
  The writer of package bits: how it lies in memory, and its two inner calls: what each leaves.
-/
import Derived.Test.YtkcjiogackkecaaProg
import Derived.Test.YtkcjiogackkecaaWords
import Derived.Test.YtkcjiogackkecaaOutPure
import Derived.Test.YtkcjiogackkecaaShelf
import Derived.BigQuiet
import Derived.Deep.QuietTactic
import Derived.Outline
namespace Go.Proofs.Ytkcjiogackkecaa
open Go.RowKit

def cat : List (Nat × ByteArray) → List UInt8
  | [] => []
  | (_, s) :: r => cat r ++ s.data.toList
end Go.Proofs.Ytkcjiogackkecaa
