/-
  WalCosts over what came in. No statement is proved here.
-/
import Derived.Test.YtnpmeolibdjgpaaGreatDoorWalCostsWalk
import Derived.Test.YtnpmeolibdjgpaaGreatDoorIntsView
namespace Go.Proofs.YtnpmeolibdjgpaaGreatDoor
open Go.RowKit

theorem wcosts_any (A : Option Addr) (m c : Nat) (l : List Int) (w : World) (hA : IntsV w A m c l) :
    Calls Tryz.prog 7 #[.slice A m c] w fun e w' => e = .returned (.bool true) ∧ Below w.heap.size w w' := wcosts_full A m c l w hA.len hA.lie
end Go.Proofs.YtnpmeolibdjgpaaGreatDoor
