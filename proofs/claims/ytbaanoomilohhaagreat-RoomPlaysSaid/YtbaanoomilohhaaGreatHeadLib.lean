/-
  Library contracts laid at this dump in plain words: strings.Trim, slices.Sort, slices.Compact. No statement is proved here.
-/
import Derived.Shelf.SlGeneric
import Derived.Shelf.Strings.Trim
import Derived.Ground.NamesProg
import Derived.Ground.Names2Prog
import Derived.Shelf.Slices.CompactI
import Derived.Shelf.Slices.Cells
import Derived.Ground.SlgmProg
import Derived.Shelf.SortM.Plain
import Derived.Shelf.SortM.SortNone
import Derived.Test.YtbaanoomilohhaaGreatProg
namespace Go.Proofs.YtbaanoomilohhaaGreat
open Go.Shelf
end Go.Proofs.YtbaanoomilohhaaGreat
