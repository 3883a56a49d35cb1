/-
  What a run of acts leaves as it was: all but which sectors are in use and what is laid. No statement is proved here.
-/
import Derived.Test.YtolbnkpakjdnnaaGreatDoorDeskRun
namespace Go.Proofs.YtolbnkpakjdnnaaGreatDoor
open Go.RowKit

theorem backK_self (K : KD) : backK K K.F K.H = K := rfl
end Go.Proofs.YtolbnkpakjdnnaaGreatDoor
