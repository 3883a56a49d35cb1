/-
  BitsRead, walked outside its bounds.
-/
import Derived.Test.YtdfickppfihiiaaDoorLight
import Derived.Test.YtdfickppfihiiaaDoorRef
namespace Go.Proofs.YtdfickppfihiiaaDoor
open Go.RowKit

set_option maxRecDepth 100000 in
set_option maxHeartbeats 2000000 in
theorem read_out (x : ByteArray) (A : Option Addr) (n c : Nat) (w : World) (h : 2000 < x.size) :
    Calls Tryd.prog 3 #[.string x, .slice A n c] w fun e w' => e = .returned (.bool true) ∧ Below w.heap.size w w' := by
  go_enter Tryd.func3, Tryd.ntmps3
  go_wp2_with (go_at_call 10; refine (alive_any _).mono ?_; rintro e w1 ⟨rfl, hb1⟩)
  go_ret
  exact ⟨rfl, hb1⟩
end Go.Proofs.YtdfickppfihiiaaDoor
