/-
  BitsOrder, walked: one by one is as at once.
-/
import Derived.Test.YtdfickppfihiiaaDoorAlive
import Derived.Test.YtdfickppfihiiaaDoorOrderPure
namespace Go.Proofs.YtdfickppfihiiaaDoor
open Go.RowKit

set_option maxRecDepth 100000 in
set_option maxHeartbeats 2000000 in
theorem order_out (A B : Option Addr) (n m c d : Nat) (w : World) (h : 40 < n ∨ n ≤ 40 ∧ 20 < m) :
    Calls Tryd.prog 8 #[.slice A n c, .slice B m d] w fun e w' => e = .returned (.bool true) ∧ Below w.heap.size w w' := by
  rcases h with h1 | ⟨h1, h2⟩
  all_goals
    go_enter Tryd.func8, Tryd.ntmps8
    go_wp2_with (go_at_call 10; refine (alive_any _).mono ?_; rintro e w1 ⟨rfl, hb1⟩)
    go_ret
    exact ⟨rfl, hb1⟩

end Go.Proofs.YtdfickppfihiiaaDoor
