/-
  BitsBack, walked: what was laid is read as it was.
-/
import Derived.Test.YtdfickppfihiiaaDoorAlive
import Derived.Test.YtdfickppfihiiaaDoorBackPure
namespace Go.Proofs.YtdfickppfihiiaaDoor
open Go.RowKit

set_option maxRecDepth 100000 in
set_option maxHeartbeats 4000000 in
/-- Outside the statement's own bounds it answers as the first call. -/
theorem back_out (a b c : Int) (s t : ByteArray) (pad : Int) (w : World)
    (h : 1000 < s.size ∨ s.size ≤ 1000 ∧ (1000 < t.size ∨ t.size ≤ 1000 ∧ (a < 0 ∨ 0 ≤ a ∧ (255 < a ∨ a ≤ 255 ∧ (b < 0 ∨ 0 ≤ b ∧ (4294967296 ≤ b ∨ b < 4294967296 ∧ (c < 0 ∨ 0 ≤ c ∧ (pad < 0 ∨ 0 ≤ pad ∧ 200 < pad)))))))) :
    Calls Tryd.prog 4 #[.int .i64 a, .int .i64 b, .int .i64 c, .string s, .string t, .int .i64 pad] w fun e w' => e = .returned (.bool true) ∧ Below w.heap.size w w' := by
  rcases h with h1 | ⟨h1, h2 | ⟨h2, h3 | ⟨h3, h4 | ⟨h4, h5 | ⟨h5, h6 | ⟨h6, h7 | ⟨h7, h8 | ⟨h8, h9⟩⟩⟩⟩⟩⟩⟩⟩
  all_goals
    go_enter Tryd.func4, Tryd.ntmps4
    go_wp2_with (go_at_call 10; refine (alive_any _).mono ?_; rintro e w1 ⟨rfl, hb1⟩)
    go_ret
    exact ⟨rfl, hb1⟩
end Go.Proofs.YtdfickppfihiiaaDoor
