/-
  BitsShort, walked: what is cut off anywhere is too short.
-/
import Derived.Test.YtdfickppfihiiaaDoorAlive
import Derived.Test.YtdfickppfihiiaaDoorShortPure
namespace Go.Proofs.YtdfickppfihiiaaDoor
open Go.RowKit

set_option maxRecDepth 100000 in
set_option maxHeartbeats 4000000 in
theorem short_out (a b : Int) (s : ByteArray) (cut : Int) (w : World)
    (h : 500 < s.size ∨ s.size ≤ 500 ∧ (a < 0 ∨ 0 ≤ a ∧ (255 < a ∨ a ≤ 255 ∧ (b < 0 ∨ 0 ≤ b ∧ cut < 0)))) :
    Calls Tryd.prog 7 #[.int .i64 a, .int .i64 b, .string s, .int .i64 cut] w fun e w' => e = .returned (.bool true) ∧ Below w.heap.size w w' := by
  rcases h with h1 | ⟨h1, h2 | ⟨h2, h3 | ⟨h3, h4 | ⟨h4, h5⟩⟩⟩⟩
  all_goals
    go_enter Tryd.func7, Tryd.ntmps7
    go_wp2_with (go_at_call 10; refine (alive_any _).mono ?_; rintro e w1 ⟨rfl, hb1⟩)
    go_ret
    exact ⟨rfl, hb1⟩

end Go.Proofs.YtdfickppfihiiaaDoor
