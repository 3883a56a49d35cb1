/-
  Package head's parse of any bytes: what it answers as a plain function of the reader, in a row of its own. No statement is proved here.
-/
import Derived.Test.YtbaanoomilohhaaGreatHeadParse
namespace Go.Proofs.YtbaanoomilohhaaGreat
open Go.RowKit

/-- So many numbers of two bytes, and the reader behind them. -/
def numsL (s : Rd) : Nat → List Int × Rd
  | 0 => ([], s)
  | j + 1 => ((numsL s j).1 ++ [((numsL s j).2.num 2).1], ((numsL s j).2.num 2).2)
theorem numsL_length (s : Rd) : ∀ j, (numsL s j).1.length = j
  | 0 => rfl
  | j + 1 => by simp [numsL, numsL_length s j]
theorem numsL_size (s : Rd) : ∀ j, (numsL s j).2.b.size ≤ s.b.size
  | 0 => Nat.le_refl _
  | j + 1 => Nat.le_trans (Rd.size_num _ 2) (numsL_size s j)
def parsR1 (Y : ByteArray) : Rd := ((Rd.mk Y 0).num 1).2
def parsR2 (Y : ByteArray) : Rd := ((parsR1 Y).num 1).2
def parsR3 (Y : ByteArray) : Rd := ((parsR2 Y).num 8).2
def parsR4 (Y : ByteArray) : Rd := ((parsR3 Y).num 2).2
def parsN (Y : ByteArray) : Nat := (min ((parsR3 Y).num 2).1 110).toNat
/-- What parse answers. -/
def parseHD (Y : ByteArray) : HD := ⟨((parsR2 Y).num 8).1, ((parsR1 Y).num 1).1 != 0, (numsL (parsR4 Y) (parsN Y)).1⟩

end Go.Proofs.YtbaanoomilohhaaGreat
