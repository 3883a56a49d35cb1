/-
  WalAll over what came in. No statement is proved here.
-/
import Derived.Test.YtnpmeolibdjgpaaGreatDoorWalAllLaw
import Derived.Test.YtnpmeolibdjgpaaGreatDoorIntsView
namespace Go.Proofs.YtnpmeolibdjgpaaGreatDoor
open Go.RowKit

set_option maxRecDepth 100000 in
set_option maxHeartbeats 2000000 in
theorem wall_out (n t a : Int) (A : Option Addr) (m c : Nat) (w : World) (h : ¬ (1 ≤ n ∧ n ≤ 60 ∧ 0 ≤ t ∧ t ≤ 4 ∧ 0 ≤ a ∧ a ≤ 300 ∧ m ≤ 200)) :
    Calls Tryz.prog 6 #[.int .i64 n, .int .i64 t, .int .i64 a, .slice A m c] w fun e w' => e = .returned (.bool true) ∧ Below w.heap.size w w' := by
  have HAL := Lib.hid (alive9_any)
  by_cases h0 : 1 ≤ n
  rotate_left
  · have g0 : n < 1 := by omega
    clear h h0
    go_enter Tryz.func6, Tryz.ntmps6
    go_wp2_with fail
    refine (HAL.out _).mono ?_
    rintro e w1 ⟨rfl, hb1⟩
    go_wp2_with fail
    go_ret
    exact ⟨rfl, hb1⟩
  by_cases h1 : n ≤ 60
  rotate_left
  · have g1 : 60 < n := by omega
    clear h h1
    go_enter Tryz.func6, Tryz.ntmps6
    go_wp2_with fail
    refine (HAL.out _).mono ?_
    rintro e w1 ⟨rfl, hb1⟩
    go_wp2_with fail
    go_ret
    exact ⟨rfl, hb1⟩
  by_cases h2 : 0 ≤ t
  rotate_left
  · have g2 : t < 0 := by omega
    clear h h2
    go_enter Tryz.func6, Tryz.ntmps6
    go_wp2_with fail
    refine (HAL.out _).mono ?_
    rintro e w1 ⟨rfl, hb1⟩
    go_wp2_with fail
    go_ret
    exact ⟨rfl, hb1⟩
  by_cases h3 : t ≤ 4
  rotate_left
  · have g3 : 4 < t := by omega
    clear h h3
    go_enter Tryz.func6, Tryz.ntmps6
    go_wp2_with fail
    refine (HAL.out _).mono ?_
    rintro e w1 ⟨rfl, hb1⟩
    go_wp2_with fail
    go_ret
    exact ⟨rfl, hb1⟩
  by_cases h4 : 0 ≤ a
  rotate_left
  · have g4 : a < 0 := by omega
    clear h h4
    go_enter Tryz.func6, Tryz.ntmps6
    go_wp2_with fail
    refine (HAL.out _).mono ?_
    rintro e w1 ⟨rfl, hb1⟩
    go_wp2_with fail
    go_ret
    exact ⟨rfl, hb1⟩
  by_cases h5 : a ≤ 300
  rotate_left
  · have g5 : 300 < a := by omega
    clear h h5
    go_enter Tryz.func6, Tryz.ntmps6
    go_wp2_with fail
    refine (HAL.out _).mono ?_
    rintro e w1 ⟨rfl, hb1⟩
    go_wp2_with fail
    go_ret
    exact ⟨rfl, hb1⟩
  have g6 : 200 < (m : Int) := by omega
  clear h
  go_enter Tryz.func6, Tryz.ntmps6
  go_wp2_with fail
  refine (HAL.out _).mono ?_
  rintro e w1 ⟨rfl, hb1⟩
  go_wp2_with fail
  go_ret
  exact ⟨rfl, hb1⟩

theorem wall_any (n t a : Int) (A : Option Addr) (m c : Nat) (l : List Int) (w : World) (_ : -9223372036854775808 ≤ n ∧ n ≤ 9223372036854775807) (_ : -9223372036854775808 ≤ t ∧ t ≤ 9223372036854775807) (_ : -9223372036854775808 ≤ a ∧ a ≤ 9223372036854775807) (hA : IntsV w A m c l) :
    Calls Tryz.prog 6 #[.int .i64 n, .int .i64 t, .int .i64 a, .slice A m c] w fun e w' => e = .returned (.bool true) ∧ Below w.heap.size w w' := by
  by_cases h : 1 ≤ n ∧ n ≤ 60 ∧ 0 ≤ t ∧ t ≤ 4 ∧ 0 ≤ a ∧ a ≤ 300 ∧ m ≤ 200
  · obtain ⟨h1, h2, h3, h4, h5, h6, h7⟩ := h
    obtain ⟨n', rfl⟩ := Int.eq_ofNat_of_zero_le (show 0 ≤ n by omega)
    obtain ⟨t', rfl⟩ := Int.eq_ofNat_of_zero_le h3
    obtain ⟨a', rfl⟩ := Int.eq_ofNat_of_zero_le h5
    exact wall_in n' t' a' A m c l w hA.len hA.lie hA.nil_ (by omega) (by omega) (by omega) (by omega) h7
  · exact wall_out n t a A m c w h
end Go.Proofs.YtnpmeolibdjgpaaGreatDoor
