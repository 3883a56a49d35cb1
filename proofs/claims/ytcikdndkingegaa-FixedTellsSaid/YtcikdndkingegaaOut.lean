/-
  The writer of package bits: how it lies in memory, and its two inner calls: what each leaves.
-/
import Derived.Test.YtcikdndkingegaaProg
import Derived.Test.YtcikdndkingegaaWords
import Derived.Test.YtcikdndkingegaaOutPure
import Derived.Test.YtcikdndkingegaaShelf
import Derived.BigQuiet
import Derived.Deep.QuietTactic
import Derived.Outline
namespace Go.Proofs.Ytcikdndkingegaa
open Go.RowKit

def cat : List (Nat × ByteArray) → List UInt8
  | [] => []
  | (_, s) :: r => cat r ++ s.data.toList
end Go.Proofs.Ytcikdndkingegaa
