/-
  Package head's Valid and Done. No statement is proved here.
-/
import Derived.Test.YtbaanoomilohhaaGreatHeadPure
import Derived.Test.YtbaanoomilohhaaGreatOuts
import Derived.Test.YtbaanoomilohhaaGreatRowOps
namespace Go.Proofs.YtbaanoomilohhaaGreat
open Go.RowKit

/-- A head as a value. -/
def HD.val (h : HD) (A : Option Addr) (c : Nat) : Value := .agg #[.int .i64 h.seq, .bool h.full, .slice A h.ts.length c]
/-- .. with its targets where they lie. -/
structure HD.At (h : HD) (w : World) (A : Option Addr) (c : Nat) : Prop where
  lie : Ints w w.heap.size A h.ts
  few : h.ts.length ≤ 1000000
theorem HD.At.below {h : HD} {w w' : World} {A : Option Addr} {c : Nat} (ha : h.At w A c) (hb : Below w.heap.size w w') : h.At w' A c := ⟨(ha.lie.below hb).more hb.size, ha.few⟩

end Go.Proofs.YtbaanoomilohhaaGreat
