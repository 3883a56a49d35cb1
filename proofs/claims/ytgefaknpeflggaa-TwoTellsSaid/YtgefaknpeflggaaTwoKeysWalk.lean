/-
  TwoKeys, walked.
-/
import Derived.Test.YtgefaknpeflggaaTwoAlive
namespace Go.Proofs.Ytgefaknpeflggaa
open Go.RowKit

set_option maxRecDepth 100000 in
set_option maxHeartbeats 2000000 in
theorem tkeys_any (t : Int) (w : World) (_h : -9223372036854775808 ≤ t ∧ t ≤ 9223372036854775807) :
    Calls Try.prog 6 #[.int .i64 t] w fun e w' => e = .returned (.bool true) ∧ Below w.heap.size w w' := by
  by_cases hout : t < 0 ∨ 63 < t
  · have hk : keyOf t = 0 := if_neg (by omega)
    have HK := Lib.hid (fun w => key_any t w)
    rw [hk] at HK
    clear hk
    by_cases hneg : t < 0
    · clear hout
      go_enter Try.func6, Try.ntmps6
      go_wp2_with (go_at_call 8; refine (alive4_any _).mono ?_; rintro e w1 ⟨rfl, hb1⟩)
      go_wp2_with (go_at_call 14; refine (HK.out _).mono ?_; rintro e w2 ⟨rfl, hb2⟩)
      go_wp2_with fail
      go_ret
      exact ⟨rfl, hb1.trans (hb2.mono hb1.size)⟩
    · have hbig : 63 < t := by omega
      clear hout
      go_enter Try.func6, Try.ntmps6
      go_wp2_with (go_at_call 8; refine (alive4_any _).mono ?_; rintro e w1 ⟨rfl, hb1⟩)
      go_wp2_with (go_at_call 14; refine (HK.out _).mono ?_; rintro e w2 ⟨rfl, hb2⟩)
      go_wp2_with fail
      go_ret
      exact ⟨rfl, hb1.trans (hb2.mono hb1.size)⟩
  · obtain ⟨j, hj⟩ : ∃ j : Nat, t = (j : Int) := ⟨t.toNat, by omega⟩
    subst hj
    have hj64 : j < 64 := by omega
    have hk : keyOf (j : Int) = keysL.getD j 0 := by
      unfold keyOf
      rw [if_pos (by omega), Int.toNat_natCast]
    obtain ⟨y, hy⟩ : ∃ y, y = keysL.getD j 0 := ⟨_, rfl⟩
    have HK : Hid (∀ w, Calls Try.prog 14 #[.int .i64 (j : Int)] w fun e w' => e = .returned (.int .u32 (y : Int)) ∧ Below w.heap.size w w') := Lib.hid (fun w => by
      have := key_any (j : Int) w
      rw [hk, ← hy] at this
      exact this)
    have HK0 : Hid (∀ w, Calls Try.prog 14 #[.int .i64 0] w fun e w' => e = .returned (.int .u32 1116352408) ∧ Below w.heap.size w w') := Lib.hid (fun w => key_any 0 w)
    have HK63 : Hid (∀ w, Calls Try.prog 14 #[.int .i64 63] w fun e w' => e = .returned (.int .u32 3329325298) ∧ Below w.heap.size w w') := Lib.hid (fun w => key_any 63 w)
    have hg := keyCells_get hj64
    rw [← hy] at hg
    obtain ⟨KC, hKC⟩ : ∃ K, K = keyCells := ⟨_, rfl⟩
    have HR : Hid (∀ w, Calls Try.prog 11 #[] w fun e w' => e = .returned (.slice (some ⟨w.heap.size, 0, none⟩) 64 64) ∧ w' = w.alloc (.cells KC 27)) := Lib.hid (fun w => by rw [hKC]; exact keys_any w)
    rw [← hKC] at hg
    have HG := Lib.hid hg
    have h1 : ¬ (j : Int) < 0 := by omega
    have h2 : ¬ (63 : Int) < (j : Int) := by omega
    have h3 : (j : Int) < 64 := by omega
    clear hk hy hg hKC hout _h
    go_enter Try.func6, Try.ntmps6
    go_wp2_with (go_at_call 8; refine (alive4_any _).mono ?_; rintro e w1 ⟨rfl, hb1⟩)
    have HB1 := Lib.hid hb1
    clear hb1
    go_wp2_with (go_at_call 14; refine (HK.out _).mono ?_; rintro e w2 ⟨rfl, hb2⟩)
    have HB2 := Lib.hid (HB1.out.trans (hb2.mono HB1.out.size))
    clear hb2 HB1
    have hc : (w2.alloc (.cells KC 27)).cell? ⟨w2.heap.size, j, none⟩ = some (.int .u32 (y : Int)) := ((Blk.new w2 27 KC).cell j).trans HG.out
    go_wp2_with (go_at_call 11; refine (HR.out _).mono ?_; rintro e w3 ⟨rfl, rfl⟩)
    clear hc
    have HB3 : Hid (Below w.heap.size w (w2.alloc (.cells KC 27))) := Lib.hid (HB2.out.alloc HB2.out.size _)
    obtain ⟨W3, hW3⟩ : ∃ W, W = w2.alloc (.cells KC 27) := ⟨_, rfl⟩
    rw [← hW3] at HB3
    try rw [← hW3]
    clear hW3 HB2
    go_wp2_with (first | (go_at_call 14; with_reducible refine (HK0.out _).mono ?_; rintro e w4 ⟨rfl, hb4⟩) | (go_at_call 14; with_reducible refine (HK63.out _).mono ?_; rintro e w5 ⟨rfl, hb5⟩))
    go_ret
    have k4 := HB3.out.trans (hb4.mono HB3.out.size)
    exact ⟨rfl, k4.trans (hb5.mono k4.size)⟩
end Go.Proofs.Ytgefaknpeflggaa
