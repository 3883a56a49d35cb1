/-
  masonrybook's book as one fact: which lists of numbers it keeps, one more, what stays, and that all are apart. No statement is proved here.
-/
import Derived.Test.YtnamokngiebicaaGreatDoorProg
import Derived.Test.YtnamokngiebicaaGreatDoorDiskPure
import Derived.Outline
import Derived.Test.YtnamokngiebicaaGreatDoorBookMarked
namespace Go.Proofs.YtnamokngiebicaaGreatDoor
open Go.RowKit

end Go.Proofs.YtnamokngiebicaaGreatDoor

namespace Go.Proofs.YtnamokngiebicaaGreatDoor
open Go.RowKit

/-- The book with lists of numbers alone. -/
def bookI (P Q : Value) : Array Value := #[.slice none 0 0, .slice none 0 0, P, Q, .slice none 0 0, .slice none 0 0, .slice none 0 0, .slice none 0 0, .slice none 0 0, .slice none 0 0, .slice none 0 0, .slice none 0 0, .slice none 0 0, .slice none 0 0, .slice none 0 0, .slice none 0 0]
theorem PutTo.vals {ls zs : List LI} {i j : Nat} (h : PutTo ls zs i j) : zs.map LI.val = ls.map LI.val := by
  apply List.ext_getElem?
  intro a
  rw [List.getElem?_map, List.getElem?_map]
  rcases Nat.lt_or_ge a ls.length with ha | ha
  · have hz : a < zs.length := by rw [h.len]; exact ha
    rw [List.getElem?_eq_getElem ha, List.getElem?_eq_getElem hz]
    obtain ⟨e1, e2, e3⟩ := h.like a zs[a] ls[a] (List.getElem?_eq_getElem hz) (List.getElem?_eq_getElem ha)
    simp only [Option.map_some]
    unfold LI.val
    rw [e1, e2, e3]
  · rw [List.getElem?_eq_none ha, List.getElem?_eq_none (by rw [h.len]; exact ha)]
end Go.Proofs.YtnamokngiebicaaGreatDoor

namespace Go.Proofs.YtnamokngiebicaaGreatDoor
open Go.RowKit

end Go.Proofs.YtnamokngiebicaaGreatDoor

namespace Go.Proofs.YtnamokngiebicaaGreatDoor
open Go.RowKit

end Go.Proofs.YtnamokngiebicaaGreatDoor
