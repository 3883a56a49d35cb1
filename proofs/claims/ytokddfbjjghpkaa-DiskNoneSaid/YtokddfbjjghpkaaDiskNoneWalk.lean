/-
  DiskNone, walked.
-/
import Derived.Test.YtokddfbjjghpkaaDiskAlive
namespace Go.Proofs.Ytokddfbjjghpkaa
open Go.RowKit

set_option maxRecDepth 100000 in
set_option maxHeartbeats 4000000 in
theorem dnone_any (at_ : Int) (w : World) (_hb : -9223372036854775808 ≤ at_ ∧ at_ ≤ 9223372036854775807) :
    Calls Try.prog 5 #[.int .i64 at_] w fun e w' => e = .returned (.bool true) ∧ Below w.heap.size w w' := by
  go_enter Try.func5, Try.ntmps5
  go_wp2_with fail
  refine (alive7_any _).mono ?_
  rintro e w1 ⟨rfl, hb1⟩
  go_wp2_with fail
  refine (drestore_nil _).mono ?_
  rintro e w2 ⟨rfl, rfl⟩
  go_wp2_with fail
  refine (darm_nil at_ _ _).mono ?_
  rintro e w2 ⟨rfl, rfl⟩
  go_wp2_with fail
  refine (dread_nil at_ _).mono ?_
  rintro e w2 ⟨rfl, rfl⟩
  go_wp2_with fail
  refine (don_nil _).mono ?_
  rintro e w2 ⟨rfl, rfl⟩
  go_wp2_with fail
  refine (dwrite_nil _ _).mono ?_
  rintro e w2 ⟨rfl, hw⟩
  have k2 : Below w.heap.size w w2 := by rw [← hw]; exact hb1.alloc hb1.size _
  clear hw hb1
  go_wp2_with fail
  refine (dflush_nil _).mono ?_
  rintro e w3 ⟨rfl, rfl⟩
  go_wp2_with fail
  refine (dcrash_nil _ _).mono ?_
  rintro e w4 ⟨rfl, hw⟩
  have k4 : Below w.heap.size w w4 := by rw [← hw]; exact k2.alloc k2.size _
  clear hw k2
  go_wp2_with fail
  refine (dsize_nil _).mono ?_
  rintro e w5 ⟨rfl, rfl⟩
  go_wp2_with fail
  refine (ddirty_nil _).mono ?_
  rintro e w5 ⟨rfl, rfl⟩
  go_wp2_with fail
  refine (dwrites_nil _).mono ?_
  rintro e w5 ⟨rfl, rfl⟩
  go_wp2_with fail
  refine (dtwin_nil _).mono ?_
  rintro e w5 ⟨rfl, rfl⟩
  go_wp2_with fail
  go_ret
  exact ⟨rfl, k4⟩
end Go.Proofs.Ytokddfbjjghpkaa
