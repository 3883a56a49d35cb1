/-
  The law's own seen: all that a Desk tells, as one text. No statement is proved here.
-/
import Derived.Test.YtnamokngiebicaaGreatDoorDeskSame
import Derived.Lib.AppendStr
namespace Go.Proofs.YtnamokngiebicaaGreatDoor
open Go.RowKit

def bytesOf (l : List Int) : List UInt8 := l.map fun z => (z % 256).toNat.toUInt8
def homesL (K : KD) (h : List ByteArray) (j : Nat) : List UInt8 := (List.range j).flatMap fun t => (homeG K h t).data.toList
def seenL (K : KD) (h : List ByteArray) : List UInt8 := homesL K h 69 ++ bytesOf (pendT K) ++ [255] ++ bytesOf K.H
section
variable {w0 w w' : World} {g gd m N : Nat} {K : KD} {h : List ByteArray} {c : Nat} {Ms : List MK}
theorem dmk_room (s : DMk w0 w g gd m N K Ms) (r : Run11 N K h c) : Calls Tryz.prog 44 #[.pointer (some ⟨g, 0, none⟩)] w fun e w' => e = .returned (.pointer (some ⟨w.heap.size, 0, none⟩)) ∧ RoomAt w' w.heap.size (N - 111) K.H ∧ Below w.heap.size w w' := by
  obtain ⟨P, h1, h2, h3, h4⟩ := s
  rw [← r.ok.len]
  exact kroom_any h1
end
end Go.Proofs.YtnamokngiebicaaGreatDoor
