/-
  SHA-256, the code's: words turned right.
-/
import Derived.Test.YtokddfbjjghpkaaDoorTwoSha
namespace Go.Proofs.YtokddfbjjghpkaaDoor
open Go.RowKit

set_option maxHeartbeats 1000000 in
theorem rot_right (x k : Nat) (m : Int) (w : World) (hx : x < 4294967296) (h : m = -2 ∧ k = 30 ∨ m = -6 ∧ k = 26 ∨ m = -7 ∧ k = 25 ∨ m = -11 ∧ k = 21 ∨ m = -13 ∧ k = 19 ∨ m = -17 ∧ k = 15 ∨ m = -18 ∧ k = 14 ∨ m = -19 ∧ k = 13 ∨ m = -22 ∧ k = 10 ∨ m = -25 ∧ k = 7) :
    Calls Tryd.prog 54 #[.int .u32 x, .int .i64 m] w fun e w' => e = .returned (.int .u32 (rotl x k)) ∧ w' = w := by
  rcases h with ⟨rfl, rfl⟩ | ⟨rfl, rfl⟩ | ⟨rfl, rfl⟩ | ⟨rfl, rfl⟩ | ⟨rfl, rfl⟩ | ⟨rfl, rfl⟩ | ⟨rfl, rfl⟩ | ⟨rfl, rfl⟩ | ⟨rfl, rfl⟩ | ⟨rfl, rfl⟩
  · have hb : bits .and .u64 (IntKind.u64.wrap (-2)) 31 = 30 := by decide +kernel
    go_enter Tryd.func54, Tryd.ntmps54
    go_wp2
    go_ret
    exact ⟨ret_word (rot_word x 30 1073741824 4 1073741824 4 rfl rfl hx rfl rfl), rfl⟩
  · have hb : bits .and .u64 (IntKind.u64.wrap (-6)) 31 = 26 := by decide +kernel
    go_enter Tryd.func54, Tryd.ntmps54
    go_wp2
    go_ret
    exact ⟨ret_word (rot_word x 26 67108864 64 67108864 64 rfl rfl hx rfl rfl), rfl⟩
  · have hb : bits .and .u64 (IntKind.u64.wrap (-7)) 31 = 25 := by decide +kernel
    go_enter Tryd.func54, Tryd.ntmps54
    go_wp2
    go_ret
    exact ⟨ret_word (rot_word x 25 33554432 128 33554432 128 rfl rfl hx rfl rfl), rfl⟩
  · have hb : bits .and .u64 (IntKind.u64.wrap (-11)) 31 = 21 := by decide +kernel
    go_enter Tryd.func54, Tryd.ntmps54
    go_wp2
    go_ret
    exact ⟨ret_word (rot_word x 21 2097152 2048 2097152 2048 rfl rfl hx rfl rfl), rfl⟩
  · have hb : bits .and .u64 (IntKind.u64.wrap (-13)) 31 = 19 := by decide +kernel
    go_enter Tryd.func54, Tryd.ntmps54
    go_wp2
    go_ret
    exact ⟨ret_word (rot_word x 19 524288 8192 524288 8192 rfl rfl hx rfl rfl), rfl⟩
  · have hb : bits .and .u64 (IntKind.u64.wrap (-17)) 31 = 15 := by decide +kernel
    go_enter Tryd.func54, Tryd.ntmps54
    go_wp2
    go_ret
    exact ⟨ret_word (rot_word x 15 32768 131072 32768 131072 rfl rfl hx rfl rfl), rfl⟩
  · have hb : bits .and .u64 (IntKind.u64.wrap (-18)) 31 = 14 := by decide +kernel
    go_enter Tryd.func54, Tryd.ntmps54
    go_wp2
    go_ret
    exact ⟨ret_word (rot_word x 14 16384 262144 16384 262144 rfl rfl hx rfl rfl), rfl⟩
  · have hb : bits .and .u64 (IntKind.u64.wrap (-19)) 31 = 13 := by decide +kernel
    go_enter Tryd.func54, Tryd.ntmps54
    go_wp2
    go_ret
    exact ⟨ret_word (rot_word x 13 8192 524288 8192 524288 rfl rfl hx rfl rfl), rfl⟩
  · have hb : bits .and .u64 (IntKind.u64.wrap (-22)) 31 = 10 := by decide +kernel
    go_enter Tryd.func54, Tryd.ntmps54
    go_wp2
    go_ret
    exact ⟨ret_word (rot_word x 10 1024 4194304 1024 4194304 rfl rfl hx rfl rfl), rfl⟩
  · have hb : bits .and .u64 (IntKind.u64.wrap (-25)) 31 = 7 := by decide +kernel
    go_enter Tryd.func54, Tryd.ntmps54
    go_wp2
    go_ret
    exact ⟨ret_word (rot_word x 7 128 33554432 128 33554432 rfl rfl hx rfl rfl), rfl⟩

set_option maxHeartbeats 1000000 in
theorem spun_e (e : Nat) (w : World) (h : e < 4294967296) :
    Calls Tryd.prog 56 #[.int .u32 e, .int .i64 6, .int .i64 11, .int .i64 25] w fun r w' => r = .returned (.int .u32 (sig1 e)) ∧ w' = w := by
  obtain ⟨r0, hr0⟩ : ∃ r, r = rotl e 26 := ⟨_, rfl⟩
  obtain ⟨r1, hr1⟩ : ∃ r, r = rotl e 21 := ⟨_, rfl⟩
  obtain ⟨r2, hr2⟩ : ∃ r, r = rotl e 7 := ⟨_, rfl⟩
  have H0 : Hid (∀ w, Calls Tryd.prog 54 #[.int .u32 e, .int .i64 (-6)] w fun e w' => e = .returned (.int .u32 r0) ∧ w' = w) := Lib.hid (fun w => by rw [hr0]; exact rot_right e 26 (-6) w h (by omega))
  have H1 : Hid (∀ w, Calls Tryd.prog 54 #[.int .u32 e, .int .i64 (-11)] w fun e w' => e = .returned (.int .u32 r1) ∧ w' = w) := Lib.hid (fun w => by rw [hr1]; exact rot_right e 21 (-11) w h (by omega))
  have H2 : Hid (∀ w, Calls Tryd.prog 54 #[.int .u32 e, .int .i64 (-25)] w fun e w' => e = .returned (.int .u32 r2) ∧ w' = w) := Lib.hid (fun w => by rw [hr2]; exact rot_right e 7 (-25) w h (by omega))
  have HX : Hid (bits .xor .u32 (bits .xor .u32 (r0 : Int) (r1 : Int)) (r2 : Int) = ((sig1 e : Nat) : Int)) := Lib.hid (by
    have l0 : r0 < 4294967296 := hr0 ▸ rotl_lt e 26 h (by decide)
    have l1 : r1 < 4294967296 := hr1 ▸ rotl_lt e 21 h (by decide)
    have l2 : r2 < 4294967296 := hr2 ▸ rotl_lt e 7 h (by decide)
    rw [u32_xor_nat r0 r1 l0 l1, u32_xor_nat _ r2 (xor_lt l0 l1) l2, hr0, hr1, hr2]
    rfl)
  clear hr0 hr1 hr2
  go_enter Tryd.func56, Tryd.ntmps56
  go_wp2_with (first | (go_at_call 54; with_reducible refine (H0.out _).mono ?_; rintro e w1 ⟨rfl, rfl⟩) | (go_at_call 54; with_reducible refine (H1.out _).mono ?_; rintro e w1 ⟨rfl, rfl⟩) | (go_at_call 54; with_reducible refine (H2.out _).mono ?_; rintro e w1 ⟨rfl, rfl⟩))
  go_ret
  exact ⟨ret_word HX.out, rfl⟩

set_option maxHeartbeats 1000000 in
theorem spun_a (e : Nat) (w : World) (h : e < 4294967296) :
    Calls Tryd.prog 56 #[.int .u32 e, .int .i64 2, .int .i64 13, .int .i64 22] w fun r w' => r = .returned (.int .u32 (sig0 e)) ∧ w' = w := by
  obtain ⟨r0, hr0⟩ : ∃ r, r = rotl e 30 := ⟨_, rfl⟩
  obtain ⟨r1, hr1⟩ : ∃ r, r = rotl e 19 := ⟨_, rfl⟩
  obtain ⟨r2, hr2⟩ : ∃ r, r = rotl e 10 := ⟨_, rfl⟩
  have H0 : Hid (∀ w, Calls Tryd.prog 54 #[.int .u32 e, .int .i64 (-2)] w fun e w' => e = .returned (.int .u32 r0) ∧ w' = w) := Lib.hid (fun w => by rw [hr0]; exact rot_right e 30 (-2) w h (by omega))
  have H1 : Hid (∀ w, Calls Tryd.prog 54 #[.int .u32 e, .int .i64 (-13)] w fun e w' => e = .returned (.int .u32 r1) ∧ w' = w) := Lib.hid (fun w => by rw [hr1]; exact rot_right e 19 (-13) w h (by omega))
  have H2 : Hid (∀ w, Calls Tryd.prog 54 #[.int .u32 e, .int .i64 (-22)] w fun e w' => e = .returned (.int .u32 r2) ∧ w' = w) := Lib.hid (fun w => by rw [hr2]; exact rot_right e 10 (-22) w h (by omega))
  have HX : Hid (bits .xor .u32 (bits .xor .u32 (r0 : Int) (r1 : Int)) (r2 : Int) = ((sig0 e : Nat) : Int)) := Lib.hid (by
    have l0 : r0 < 4294967296 := hr0 ▸ rotl_lt e 30 h (by decide)
    have l1 : r1 < 4294967296 := hr1 ▸ rotl_lt e 19 h (by decide)
    have l2 : r2 < 4294967296 := hr2 ▸ rotl_lt e 10 h (by decide)
    rw [u32_xor_nat r0 r1 l0 l1, u32_xor_nat _ r2 (xor_lt l0 l1) l2, hr0, hr1, hr2]
    rfl)
  clear hr0 hr1 hr2
  go_enter Tryd.func56, Tryd.ntmps56
  go_wp2_with (first | (go_at_call 54; with_reducible refine (H0.out _).mono ?_; rintro e w1 ⟨rfl, rfl⟩) | (go_at_call 54; with_reducible refine (H1.out _).mono ?_; rintro e w1 ⟨rfl, rfl⟩) | (go_at_call 54; with_reducible refine (H2.out _).mono ?_; rintro e w1 ⟨rfl, rfl⟩))
  go_ret
  exact ⟨ret_word HX.out, rfl⟩
end Go.Proofs.YtokddfbjjghpkaaDoor
