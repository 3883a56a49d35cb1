/-
  A region that draws its order: its last assignment. No statement is proved here.
-/
import Derived.Test.YtiagofgcinlnhaaGreatDoorHeadParse
namespace Go.Proofs.YtiagofgcinlnhaaGreatDoor
open Go.RowKit
end Go.Proofs.YtiagofgcinlnhaaGreatDoor
