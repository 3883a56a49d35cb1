/-
  masonrybook's book as one fact: which lists of numbers it keeps, one more, what stays, and that all are apart. No statement is proved here.
-/
import Derived.Test.YtiagofgcinlnhaaGreatDoorProg
import Derived.Test.YtiagofgcinlnhaaGreatDoorDiskPure
import Derived.Outline
import Derived.Test.YtiagofgcinlnhaaGreatDoorBookMarked
namespace Go.Proofs.YtiagofgcinlnhaaGreatDoor
open Go.RowKit
theorem PutTo.vals {ls zs : List LI} {i j : Nat} (h : PutTo ls zs i j) : zs.map LI.val = ls.map LI.val := by
  apply List.ext_getElem?
  intro a
  rw [List.getElem?_map, List.getElem?_map]
  rcases Nat.lt_or_ge a ls.length with ha | ha
  · have hz : a < zs.length := by rw [h.len]; exact ha
    rw [List.getElem?_eq_getElem ha, List.getElem?_eq_getElem hz]
    obtain ⟨e1, e2, e3⟩ := h.like a zs[a] ls[a] (List.getElem?_eq_getElem hz) (List.getElem?_eq_getElem ha)
    simp only [Option.map_some]
    unfold LI.val
    rw [e1, e2, e3]
  · rw [List.getElem?_eq_none ha, List.getElem?_eq_none (by rw [h.len]; exact ha)]
end Go.Proofs.YtiagofgcinlnhaaGreatDoor
