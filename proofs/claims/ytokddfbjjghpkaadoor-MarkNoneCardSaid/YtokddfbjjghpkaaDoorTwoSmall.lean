/-
  SHA-256: words turned, the numbers of the rounds: the document's own.
-/
import Derived.Test.YtokddfbjjghpkaaDoorOneSmall
import Derived.Test.YtokddfbjjghpkaaDoorTwoPure
namespace Go.Proofs.YtokddfbjjghpkaaDoor
open Go.RowKit

def keyCells : Array Value := (keysL.map fun x : Nat => Value.int .u32 (x : Int)).toArray
theorem keyCells_get {i : Nat} (h : i < 64) : keyCells[i]? = some (.int .u32 ((keysL.getD i 0 : Nat) : Int)) := by
  unfold keyCells
  rw [List.getElem?_toArray, List.getElem?_map, List.getElem?_eq_getElem (by rw [keysL_length]; exact h), List.getD_eq_getElem?_getD, List.getElem?_eq_getElem (by rw [keysL_length]; exact h)]
  rfl
end Go.Proofs.YtokddfbjjghpkaaDoor
