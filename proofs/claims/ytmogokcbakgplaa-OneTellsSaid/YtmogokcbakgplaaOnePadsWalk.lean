/-
  OnePads, walked.
-/
import Derived.Test.YtmogokcbakgplaaOneAlive
namespace Go.Proofs.Ytmogokcbakgplaa
open Go.RowKit

set_option maxRecDepth 100000 in
set_option maxHeartbeats 1000000 in
theorem pad_out (n : Int) (w : World) (h : n < 0 ∨ 1099511627776 < n) :
    Calls Try.prog 13 #[.int .i64 n] w fun e w' => e = .returned (.string ⟨#[]⟩) ∧ w = w' := by
  by_cases hneg : n < 0
  · go_enter Try.func13, Try.ntmps13
    go_wp2_with fail
    go_ret
    exact ⟨rfl, rfl⟩
  · have hbig : 1099511627776 < n := by omega
    go_enter Try.func13, Try.ntmps13
    go_wp2_with fail
    go_ret
    exact ⟨rfl, rfl⟩

set_option maxRecDepth 100000 in
set_option maxHeartbeats 2000000 in
theorem pads_any (n : Int) (w : World) (_h : -9223372036854775808 ≤ n ∧ n ≤ 9223372036854775807) :
    Calls Try.prog 4 #[.int .i64 n] w fun e w' => e = .returned (.bool true) ∧ Below w.heap.size w w' := by
  by_cases hneg : n < 0
  · go_enter Try.func4, Try.ntmps4
    have HP := Lib.hid (fun w => pad_out n w (Or.inl hneg))
    go_wp2_with (go_at_call 8; refine (alive3_any _).mono ?_; rintro e w1 ⟨rfl, hb1⟩)
    go_wp2_with (go_at_call 13; refine (HP.out _).mono ?_; rintro e w2 ⟨rfl, rfl⟩)
    go_wp2_with fail
    go_ret
    exact ⟨rfl, hb1⟩
  · by_cases hbig : 1099511627776 < n
    · go_enter Try.func4, Try.ntmps4
      have HP := Lib.hid (fun w => pad_out n w (Or.inr hbig))
      go_wp2_with (go_at_call 8; refine (alive3_any _).mono ?_; rintro e w1 ⟨rfl, hb1⟩)
      go_wp2_with (go_at_call 13; refine (HP.out _).mono ?_; rintro e w2 ⟨rfl, rfl⟩)
      go_wp2_with fail
      go_ret
      exact ⟨rfl, hb1⟩
    · obtain ⟨k, rfl⟩ : ∃ k : Nat, n = (k : Int) := ⟨n.toNat, by omega⟩
      have hk : k ≤ 1099511627776 := by omega
      obtain ⟨T, hT⟩ : ∃ T : ByteArray, T = ⟨(padB k).toArray⟩ := ⟨_, rfl⟩
      have HP : Hid (∀ w1, Calls Try.prog 13 #[.int .i64 (k : Int)] w1 fun e w' => e = .returned (.string T) ∧ Below w1.heap.size w1 w') := Lib.hid (fun w1 => by rw [hT]; exact pad_any k w1 hk)
      have hsz : T.size = (padB k).length := by rw [hT]; show (padB k).toArray.size = _; simp
      have hz := zerosP_lt k
      have hl := padB_length k
      have hw := padB_whole k
      rw [← hsz] at hl hw
      have hl9 : 9 ≤ T.size := by omega
      have hl72 : T.size ≤ 72 := by omega
      have h00 : 0 < T.size := by omega
      have hx0 : T[0] = 128 := by
        have e : T[0]? = some 128 := by rw [hT]; rfl
        rw [getElem?_pos T 0 h00] at e
        exact Option.some.inj e
      have hmod : ((k : Int) + (T.size : Int)) % 64 = 0 := by omega
      clear hT hsz hz hl hw
      go_enter Try.func4, Try.ntmps4
      go_wp2_with (go_at_call 8; refine (alive3_any _).mono ?_; rintro e w1 ⟨rfl, hb1⟩)
      go_wp2_with (go_at_call 13; refine (HP.out _).mono ?_; rintro e w2 ⟨rfl, hb2⟩)
      go_wp2_with fail
      go_ret
      exact ⟨rfl, hb1.trans (hb2.mono hb1.size)⟩
end Go.Proofs.Ytmogokcbakgplaa
