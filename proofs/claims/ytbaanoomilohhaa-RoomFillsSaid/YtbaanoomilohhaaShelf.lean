/-
  The library's contracts that this seat's proofs use, laid at this dump in plain words: the shelf's theorems over any program, at the numbers of this one.
-/
import Derived.Shelf.Strings.BuilderK
import Derived.Shelf.LaysM
import Derived.Shelf.Strconv.Clone
import Derived.Shelf.Strings.Repeat
import Derived.Test.YtbaanoomilohhaaProg
namespace Go.Proofs.Ytbaanoomilohhaa
open Go.Shelf Go.RowKit

end Go.Proofs.Ytbaanoomilohhaa
