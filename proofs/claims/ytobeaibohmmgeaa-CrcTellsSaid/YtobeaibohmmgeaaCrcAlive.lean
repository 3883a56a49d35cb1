/-
  The first call of every statement of chapter 2: it answers true, and nothing that was there turns.
-/
import Derived.Test.YtobeaibohmmgeaaCrcOf
namespace Go.Proofs.Ytobeaibohmmgeaa
open Go.RowKit

theorem crc_known : crc (cats [⟨#[49, 50, 51, 52]⟩, ⟨#[53, 54, 55, 56, 57]⟩]) = 3421780262 := by decide +kernel

set_option maxRecDepth 100000 in
set_option maxHeartbeats 1000000 in
theorem alive2_any (w : World) : Calls Try.prog 8 #[] w fun e w' => e = .returned (.bool true) ∧ Below w.heap.size w w' := by
  go_enter Try.func8, Try.ntmps8
  go_wp2_with fail
  with_reducible refine (of_any (some ⟨w.heap.size, 0, none⟩) 2 2 [⟨#[49, 50, 51, 52]⟩, ⟨#[53, 54, 55, 56, 57]⟩] _ rfl ?_ (by simp) ?_).mono ?_
  · exact txts_at _ _ _ _ rfl rfl
  · intro x hx
    simp only [List.mem_cons, List.mem_nil_iff, or_false] at hx
    rcases hx with rfl | rfl <;> decide
  rintro e w1 ⟨rfl, rfl⟩
  rw [crc_known]
  go_wp2_with fail
  go_ret
  exact ⟨rfl, (Below.refl _ _).alloc (Nat.le_refl _) _⟩
end Go.Proofs.Ytobeaibohmmgeaa
