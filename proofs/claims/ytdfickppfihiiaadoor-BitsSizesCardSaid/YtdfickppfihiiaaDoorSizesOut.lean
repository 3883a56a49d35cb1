/-
  BitsSizes, walked outside its bounds; and both together. No statement is proved here.
-/
import Derived.Test.YtdfickppfihiiaaDoorSizesWalk
namespace Go.Proofs.YtdfickppfihiiaaDoor
open Go.RowKit

set_option maxRecDepth 100000 in
set_option maxHeartbeats 2000000 in
theorem sizes_neg (a n : Int) (w : World) (h : n < 0) :
    Calls Tryd.prog 6 #[.int .i64 a, .int .i64 n] w fun e w' => e = .returned (.bool true) ∧ Below w.heap.size w w' := by
  go_enter Tryd.func6, Tryd.ntmps6
  go_wp2_with (go_at_call 10; refine (alive_any _).mono ?_; rintro e w1 ⟨rfl, hb1⟩)
  go_ret
  exact ⟨rfl, hb1⟩
set_option maxRecDepth 100000 in
set_option maxHeartbeats 2000000 in
theorem sizes_far (a n : Int) (w : World) (h : 70000 < n) :
    Calls Tryd.prog 6 #[.int .i64 a, .int .i64 n] w fun e w' => e = .returned (.bool true) ∧ Below w.heap.size w w' := by
  have h0 : 0 ≤ n := by omega
  go_enter Tryd.func6, Tryd.ntmps6
  go_wp2_with (go_at_call 10; refine (alive_any _).mono ?_; rintro e w1 ⟨rfl, hb1⟩)
  go_ret
  exact ⟨rfl, hb1⟩

theorem sizes_any (a n : Int) (w : World) :
    Calls Tryd.prog 6 #[.int .i64 a, .int .i64 n] w fun e w' => e = .returned (.bool true) ∧ Below w.heap.size w w' := by
  by_cases h : n < 0
  · exact sizes_neg a n w h
  · by_cases h1 : 70000 < n
    · exact sizes_far a n w h1
    · exact sizes_in a n w (by omega) (by omega)
end Go.Proofs.YtdfickppfihiiaaDoor
