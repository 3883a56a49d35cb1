/-
  The statements' first call of gear. No statement is proved here.
-/
import Derived.Test.YtgggeikfajhfdaaGearOf
namespace Go.Proofs.Ytgggeikfajhfdaa
open Go.RowKit

set_option maxRecDepth 100000 in
set_option maxHeartbeats 1000000 in
theorem alive5_any (w : World) : Calls Try.prog 7 #[] w fun e w' => e = .returned (.bool true) ∧ Below w.heap.size w w' := by
  obtain ⟨g, hg⟩ : ∃ g, g = gval 7 := ⟨_, rfl⟩
  have hst : gstep 0 7 = g := by
    rw [hg, gstep_eq]
    have := gval_lt 7
    show (0 * 2 + gval 7) % 18446744073709551616 = gval 7
    rw [Nat.zero_mul, Nat.zero_add]
    exact Nat.mod_eq_of_lt this
  have HV : Hid (∀ w, Calls Try.prog 10 #[.int .u8 7] w fun e w' => e = .returned (.int .u64 (g : Int)) ∧ w = w') := Lib.hid (fun w => by
    have := value_any 7 w
    rw [show (7 : UInt8).toNat = 7 from rfl, ← hg] at this
    exact this)
  have HW : Hid (∀ w, Calls Try.prog 11 #[.int .u8 7] w fun e w' => e = .returned (.int .u64 (g : Int)) ∧ w = w') := Lib.hid (fun w => by
    have := ref_gear 7 w
    rw [show (7 : UInt8).toNat = 7 from rfl, ← hg] at this
    exact this)
  have HR : Hid (∀ w : World, Calls Try.prog 12 #[.int .u64 0, .slice (some ⟨w.heap.size, 0, none⟩) 1 1] (w.alloc (.cells #[.int .u8 7] 5)) fun e w' => e = .returned (.int .u64 (g : Int)) ∧ w.alloc (.cells #[.int .u8 7] 5) = w') := Lib.hid (fun w => by
    have := roll_any 0 (some ⟨w.heap.size, 0, none⟩) 1 1 [7] _ rfl (byts_one w 7 (.int .u8 7) rfl _ rfl) (by omega) (by decide)
    rw [groll_one, hst] at this
    exact this)
  have HN : Hid (∀ w : World, Calls Try.prog 12 #[.int .u64 1, .slice none 0 0] w fun e w' => e = .returned (.int .u64 1) ∧ w = w') := Lib.hid (fun w => roll_any 1 none 0 0 [] w rfl (Byts.nil _ _ _) (by omega) (by decide))
  clear hg hst
  go_enter Try.func7, Try.ntmps7
  go_wp2_with fail
  refine (HR.out _).mono ?_
  rintro e w1 ⟨rfl, rfl⟩
  go_wp2_with fail
  refine (HV.out _).mono ?_
  rintro e w1 ⟨rfl, rfl⟩
  go_wp2_with fail
  refine (HV.out _).mono ?_
  rintro e w1 ⟨rfl, rfl⟩
  go_wp2_with fail
  refine (HW.out _).mono ?_
  rintro e w1 ⟨rfl, rfl⟩
  go_wp2_with fail
  refine (HN.out _).mono ?_
  rintro e w1 ⟨rfl, rfl⟩
  go_wp2_with fail
  go_ret
  exact ⟨by first | rfl | simp, (Below.refl _ _).alloc (Nat.le_refl _) _⟩
end Go.Proofs.Ytgggeikfajhfdaa
