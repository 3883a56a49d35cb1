/-
  The writer's Pad and End.
-/
import Derived.Test.YtbaanoomilohhaaOut
import Derived.Laws.CopyOwn
import Derived.Lib.BufferWrite
import Derived.BigRegion
namespace Go.Proofs.Ytbaanoomilohhaa
open Go.RowKit

theorem repeat_zero (c : Nat) : Lib.repeatL [0] c = List.replicate c (0 : UInt8) := by
  induction c with
  | zero => rfl
  | succ c ih => rw [Lib.repeatL, ih, List.replicate_succ]; rfl

end Go.Proofs.Ytbaanoomilohhaa
