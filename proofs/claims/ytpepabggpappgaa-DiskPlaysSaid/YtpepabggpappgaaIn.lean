/-
  The reader of package bits, call by call: what each answers, and what it leaves in its own block; nothing else that was there turns.
-/
import Derived.Test.YtpepabggpappgaaProg
import Derived.Test.YtpepabggpappgaaWords
import Derived.Test.YtpepabggpappgaaPure
import Derived.Test.YtpepabggpappgaaShelf
import Derived.BigQuiet
import Derived.Deep.QuietTactic
import Derived.Outline
namespace Go.Proofs.Ytpepabggpappgaa
open Go.RowKit

/-- What the bytes up to j+1 come to. -/
theorem low_next {x : ByteArray} {j k : Nat} (hs : x.size = k) (hj : j < k) (hk : k ≤ 8) :
    bits .or .u64 (low (x.data.toList.take j) : Int) (IntKind.u64.wrap (IntKind.u64.wrap ((x[j]'(by omega)).toNat : Int) * 2 ^ (8 * j))) = (low (x.data.toList.take (j + 1)) : Int) := by
  have hl : (x.data.toList.take j).length = j := by
    rw [List.length_take, Array.length_toList]
    have : x.data.size = k := hs
    omega
  rw [low_or _ _ j hl (by omega)]
  congr 2
  rw [List.take_succ_eq_append_getElem (by rw [Array.length_toList]; have : x.data.size = k := hs; omega)]
  rfl

set_option maxHeartbeats 400000 in
theorem clone_any (s : ByteArray) (w : World) (hlim : s.size ≤ 281474976710656) :
    Calls Try.prog 40 #[.string s] w fun e w' => e = .returned (.string s) ∧ Below w.heap.size w w' := by
  go_enter Try.func40, Try.ntmps40
  go_wp2_with (go_at_call 53; refine (clone_lite s _ hlim).mono ?_; rintro e w1 ⟨rfl, hb1⟩)
  go_ret
  exact ⟨rfl, hb1⟩

/- A reader that is nil. -/
end Go.Proofs.Ytpepabggpappgaa
