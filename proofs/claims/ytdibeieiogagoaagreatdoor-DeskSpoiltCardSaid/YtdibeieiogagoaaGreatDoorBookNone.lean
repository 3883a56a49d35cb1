/-
  masonrybook's kinds of which no list is kept. No statement is proved here.
-/
import Derived.Test.YtdibeieiogagoaaGreatDoorBookGrow
import Derived.Test.YtdibeieiogagoaaGreatDoorHeadSome
import Derived.Test.YtdibeieiogagoaaGreatDoorProg
import Derived.Test.YtdibeieiogagoaaGreatDoorRowOps
import Derived.Outline
namespace Go.Proofs.YtdibeieiogagoaaGreatDoor
open Go.RowKit

theorem hrows_info : (Tryz.prog.info? 39).map (fun i => (i.zero, i.size, i.bytes)) = some (some (.slice none 0 0), 1, 24) := by kernel_rfl

end Go.Proofs.YtdibeieiogagoaaGreatDoor

namespace Go.Proofs.YtdibeieiogagoaaGreatDoor
open Go.RowKit

/-- On the way through a round of markedInts. -/
structure MJ (W : World) (b off k cR j : Nat) (A : Option Addr) (n c : Nat) (L : Nat → Bool) (f : Nat → Value) (w' : World) : Prop where
  f0 : L 0 = true → f 0 = .slice (some ⟨b, off, none⟩) k cR
  f1 : L 1 = true → f 1 = .int .i64 (j : Int)
  f2 : L 2 = true → f 2 = .pointer (some ⟨b, off + j, none⟩)
  f3 : L 3 = true → f 3 = .slice A n c
  f4 : L 4 = true → f 4 = .int .i64 (j : Int)
  f5 : L 5 = true → f 5 = .slice (some ⟨b, off, none⟩) k cR
  f6 : L 6 = true → f 6 = .int .i64 (j : Int)
  f7 : L 7 = true → f 7 = .pointer (some ⟨b, off + j, none⟩)
  f8 : L 8 = true → f 8 = .slice A n c
  f9 : L 9 = true → f 9 = .int .i64 (n : Int)
  f10 : L 10 = true → ∃ mp mc, f 10 = .slice mp n mc ∧ Ints w' w'.heap.size mp (marksOf j 0 n)
  f11 : L 11 = true → f 11 = .bool true
  c11 : L 11 = true → L 10 = true
  below : Below W.heap.size W w'

end Go.Proofs.YtdibeieiogagoaaGreatDoor

namespace Go.Proofs.YtdibeieiogagoaaGreatDoor
open Go.RowKit

end Go.Proofs.YtdibeieiogagoaaGreatDoor
