/-
  The reader of package bits, call by call: what each answers, and what it leaves in its own block; nothing else that was there turns.
-/
import Derived.Test.YtbaanoomilohhaaProg
import Derived.Test.YtbaanoomilohhaaWords
import Derived.Test.YtbaanoomilohhaaPure
import Derived.Test.YtbaanoomilohhaaShelf
import Derived.BigQuiet
import Derived.Deep.QuietTactic
import Derived.Outline
namespace Go.Proofs.Ytbaanoomilohhaa
open Go.RowKit

/-- What the bytes up to j+1 come to. -/
theorem low_next {x : ByteArray} {j k : Nat} (hs : x.size = k) (hj : j < k) (hk : k ≤ 8) :
    bits .or .u64 (low (x.data.toList.take j) : Int) (IntKind.u64.wrap (IntKind.u64.wrap ((x[j]'(by omega)).toNat : Int) * 2 ^ (8 * j))) = (low (x.data.toList.take (j + 1)) : Int) := by
  have hl : (x.data.toList.take j).length = j := by
    rw [List.length_take, Array.length_toList]
    have : x.data.size = k := hs
    omega
  rw [low_or _ _ j hl (by omega)]
  congr 2
  rw [List.take_succ_eq_append_getElem (by rw [Array.length_toList]; have : x.data.size = k := hs; omega)]
  rfl

/- A reader that is nil. -/
end Go.Proofs.Ytbaanoomilohhaa
