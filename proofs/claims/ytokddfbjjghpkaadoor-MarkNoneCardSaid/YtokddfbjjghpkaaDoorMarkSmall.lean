/-
  Package mark's small calls: Size, Valid, Hash; Go's own comparisons.
-/
import Derived.Test.YtokddfbjjghpkaaDoorProg
import Derived.Test.YtokddfbjjghpkaaDoorMarkPure
import Derived.Test.YtokddfbjjghpkaaDoorIn
import Derived.BigQuiet
import Derived.Deep.QuietTactic
import Derived.Outline
namespace Go.Proofs.YtokddfbjjghpkaaDoor
open Go.RowKit

theorem below_drewN {B : Nat} {w w' : World} (h : Below B w w') (n : Nat) : Below B w (w'.drewN n) := ⟨h.os, h.tape, h.output, h.size, h.block⟩
theorem below_drew {B : Nat} {w w' : World} (h : Below B w w') : Below B w w'.drew := ⟨h.os, h.tape, h.output, h.size, h.block⟩

set_option maxHeartbeats 400000 in
theorem size_any (k : Int) (w : World) :
    Calls Tryd.prog 10 #[.int .i64 k] w fun e w' => e = .returned (.int .i64 (sizeK k)) ∧ w = w' := by
  by_cases h1 : k = 1
  · subst h1
    go_enter Tryd.func10, Tryd.ntmps10
    go_wp2
    go_ret
    exact ⟨rfl, rfl⟩
  · by_cases h2 : k = 2
    · subst h2
      go_enter Tryd.func10, Tryd.ntmps10
      go_wp2
      go_ret
      exact ⟨rfl, rfl⟩
    · rw [sizeK_other h1 h2]
      have e1 : (k == 1) = false := beq_eq_false_iff_ne.2 h1
      have e2 : (k == 2) = false := beq_eq_false_iff_ne.2 h2
      clear h1 h2
      go_enter Tryd.func10, Tryd.ntmps10
      go_wp2
      go_ret
      exact ⟨rfl, rfl⟩

set_option maxHeartbeats 800000 in
theorem valid_any (k : Int) (s : ByteArray) (w : World) :
    Calls Tryd.prog 9 #[.agg #[.int .i64 k, .string s]] w fun e w' => e = .returned (.bool (validK k s)) ∧ Below w.heap.size w w' := by
  have HZ := Lib.hid (fun w => size_any k w)
  have hv : validK k s = (decide (0 < sizeK k) && decide ((s.size : Int) = sizeK k)) := rfl
  obtain ⟨r, hr⟩ : ∃ r, r = validK k s := ⟨_, rfl⟩
  rw [← hr] at hv ⊢
  generalize sizeK k = z at *
  by_cases h0 : 0 < z
  · by_cases h1 : (s.size : Int) = z
    · obtain rfl : r = true := by rw [hv]; simp [h0, h1]
      clear hr hv
      have e1 : ((s.size : Int) == z) = true := by simpa using h1
      clear h1
      go_enter Tryd.func9, Tryd.ntmps9
      go_wp2_with (go_at_call 10; refine (HZ.out _).mono ?_; rintro e w1 ⟨rfl, rfl⟩)
      go_ret
      exact ⟨rfl, (Below.refl _ _).alloc (Nat.le_refl _) _⟩
    · obtain rfl : r = false := by rw [hv]; simp [h1]
      clear hr hv
      have e1 : ((s.size : Int) == z) = false := beq_eq_false_iff_ne.2 h1
      clear h1
      go_enter Tryd.func9, Tryd.ntmps9
      go_wp2_with (go_at_call 10; refine (HZ.out _).mono ?_; rintro e w1 ⟨rfl, rfl⟩)
      go_ret
      exact ⟨rfl, (Below.refl _ _).alloc (Nat.le_refl _) _⟩
  · obtain rfl : r = false := by rw [hv]; simp [h0]
    clear hr hv
    go_enter Tryd.func9, Tryd.ntmps9
    go_wp2_with (go_at_call 10; refine (HZ.out _).mono ?_; rintro e w1 ⟨rfl, rfl⟩)
    go_ret
    exact ⟨rfl, (Below.refl _ _).alloc (Nat.le_refl _) _⟩

/-- The first of two numbers that is not 0. -/
def orK (x y : Int) : Int := if x ≠ 0 then x else y
end Go.Proofs.YtokddfbjjghpkaaDoor
