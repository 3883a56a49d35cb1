/-
  The law's own comparison of two heads. No statement is proved here.
-/
import Derived.Test.YtnpmeolibdjgpaaGreatDoorHeadRead
import Derived.Test.YtnpmeolibdjgpaaGreatDoorHeadNext
namespace Go.Proofs.YtnpmeolibdjgpaaGreatDoor
open Go.RowKit

end Go.Proofs.YtnpmeolibdjgpaaGreatDoor
