/-
  TwoKnown, walked.
-/
import Derived.Test.YtgefaknpeflggaaTwoAlive
namespace Go.Proofs.Ytgefaknpeflggaa
open Go.RowKit

/-- The text of 56 bytes. -/
def text56 : ByteArray := ⟨#[97, 98, 99, 100, 98, 99, 100, 101, 99, 100, 101, 102, 100, 101, 102, 103, 101, 102, 103, 104, 102, 103, 104, 105, 103, 104, 105, 106, 104, 105, 106, 107, 105, 106, 107, 108, 106, 107, 108, 109, 107, 108, 109, 110, 108, 109, 110, 111, 109, 110, 111, 112, 110, 111, 112, 113]⟩
theorem two_none : hexB (twoB []) = [101, 51, 98, 48, 99, 52, 52, 50, 57, 56, 102, 99, 49, 99, 49, 52, 57, 97, 102, 98, 102, 52, 99, 56, 57, 57, 54, 102, 98, 57, 50, 52, 50, 55, 97, 101, 52, 49, 101, 52, 54, 52, 57, 98, 57, 51, 52, 99, 97, 52, 57, 53, 57, 57, 49, 98, 55, 56, 53, 50, 98, 56, 53, 53] := by decide +kernel
theorem two_56 : hexB (twoB (cats [text56])) = [50, 52, 56, 100, 54, 97, 54, 49, 100, 50, 48, 54, 51, 56, 98, 56, 101, 53, 99, 48, 50, 54, 57, 51, 48, 99, 51, 101, 54, 48, 51, 57, 97, 51, 51, 99, 101, 52, 53, 57, 54, 52, 102, 102, 50, 49, 54, 55, 102, 54, 101, 99, 101, 100, 100, 52, 49, 57, 100, 98, 48, 54, 99, 49] := by decide +kernel

set_option maxRecDepth 100000 in
set_option maxHeartbeats 2000000 in
theorem known2_out (s : ByteArray) (w : World) (h : 800 < s.size) (hs : s.size ≤ 140737488351232) :
    Calls Try.prog 4 #[.string s] w fun e w' => e = .returned (.bool true) ∧ Below w.heap.size w w' := by
  have hI : (800 : Int) < (s.size : Int) := by omega
  go_enter Try.func4, Try.ntmps4
  go_wp2_with (go_at_call 8; refine (alive4_any _).mono ?_; rintro e w1 ⟨rfl, hb1⟩)
  go_wp2_with fail
  go_ret
  exact ⟨rfl, hb1⟩

set_option maxRecDepth 100000 in
set_option maxHeartbeats 4000000 in
theorem known2_in (s : ByteArray) (w : World) (h : s.size ≤ 800) :
    Calls Try.prog 4 #[.string s] w fun e w' => e = .returned (.bool true) ∧ Below w.heap.size w w' := by
  have hsl : s.data.toList.length ≤ 800 := by rw [← Lib.size_eq]; exact h
  obtain ⟨T0, hT0⟩ : ∃ T, T = twoT [⟨#[]⟩] := ⟨_, rfl⟩
  obtain ⟨T5, hT5⟩ : ∃ T, T = twoT [text56] := ⟨_, rfl⟩
  obtain ⟨TS, hTS⟩ : ∃ T, T = twoT [s] := ⟨_, rfl⟩
  have HS0 := Lib.hid (sum_list2 T0 _ hT0 1 rfl (by omega) (by decide))
  have HS5 := Lib.hid (sum_list2 T5 _ hT5 1 rfl (by omega) (by decide))
  have HSS := Lib.hid (sum_list2 TS _ hTS 1 rfl (by omega) (by simp [cats] <;> omega))
  have HH0 : Hid (∀ w1, Calls Try.prog 16 #[.string T0] w1 fun e w' => e = .returned (.string ⟨#[101, 51, 98, 48, 99, 52, 52, 50, 57, 56, 102, 99, 49, 99, 49, 52, 57, 97, 102, 98, 102, 52, 99, 56, 57, 57, 54, 102, 98, 57, 50, 52, 50, 55, 97, 101, 52, 49, 101, 52, 54, 52, 57, 98, 57, 51, 52, 99, 97, 52, 57, 53, 57, 57, 49, 98, 55, 56, 53, 50, 98, 56, 53, 53]⟩) ∧ Below w1.heap.size w1 w') :=
    Lib.hid (fun w1 => by
      have := hex_any T0 w1 (by rw [hT0, twoT_size]; omega) (by rw [hT0, twoT_size]; omega)
      rw [hT0, twoT_list, show cats [⟨#[]⟩] = [] from rfl, two_none] at this
      rw [hT0]
      exact this)
  have HH5 : Hid (∀ w1, Calls Try.prog 16 #[.string T5] w1 fun e w' => e = .returned (.string ⟨#[50, 52, 56, 100, 54, 97, 54, 49, 100, 50, 48, 54, 51, 56, 98, 56, 101, 53, 99, 48, 50, 54, 57, 51, 48, 99, 51, 101, 54, 48, 51, 57, 97, 51, 51, 99, 101, 52, 53, 57, 54, 52, 102, 102, 50, 49, 54, 55, 102, 54, 101, 99, 101, 100, 100, 52, 49, 57, 100, 98, 48, 54, 99, 49]⟩) ∧ Below w1.heap.size w1 w') :=
    Lib.hid (fun w1 => by
      have := hex_any T5 w1 (by rw [hT5, twoT_size]; omega) (by rw [hT5, twoT_size]; omega)
      rw [hT5, twoT_list, two_56] at this
      rw [hT5]
      exact this)
  have hsz : TS.size = 32 := by rw [hTS]; exact twoT_size _
  clear hT0 hT5 hTS hsl
  go_enter Try.func4, Try.ntmps4
  go_wp2_with (go_at_call 8; refine (alive4_any _).mono ?_; rintro e w1 ⟨rfl, hb1⟩)
  have HB1 := Lib.hid hb1
  clear hb1
  go_wp2_with (go_at_call 12; refine (HS0.out _ _ _ (by omega) (txts_at _ _ _ _ rfl rfl)).mono ?_; rintro e w2 ⟨rfl, hb2⟩)
  go_wp2_with (go_at_call 16; refine (HH0.out _).mono ?_; rintro e w3 ⟨rfl, hb3⟩)
  have HB3 : Hid (Below w.heap.size w w3) := by
    have k1 := HB1.out
    have k2 : Below w.heap.size w w2 := (k1.alloc k1.size _).trans (hb2.mono (by have := k1.size; simp; omega))
    exact Lib.hid (k2.trans (hb3.mono k2.size))
  clear hb2 hb3 HB1
  go_wp2_with (go_at_call 12; refine (HS5.out _ _ _ (by omega) (txts_at _ _ _ _ rfl rfl)).mono ?_; rintro e w4 ⟨rfl, hb4⟩)
  go_wp2_with (go_at_call 16; refine (HH5.out _).mono ?_; rintro e w5 ⟨rfl, hb5⟩)
  have HB5 : Hid (Below w.heap.size w w5) := by
    have k1 := HB3.out
    have k2 : Below w.heap.size w w4 := (k1.alloc k1.size _).trans (hb4.mono (by have := k1.size; simp; omega))
    exact Lib.hid (k2.trans (hb5.mono k2.size))
  clear hb4 hb5 HB3
  go_wp2_with fail
  have hx6 : Txts (w5.alloc (.cells #[.string s] 9)) (w5.alloc (.cells #[.string s] 9)).heap.size (some ⟨w5.heap.size, 0, none⟩) [s] := txts_at _ _ _ _ rfl rfl
  refine (HSS.out _ _ _ (by omega) hx6).mono ?_
  rintro e w6 ⟨rfl, hb6⟩
  clear hx6
  have HB6 : Hid (Below w.heap.size w w6) := by
    have k1 := HB5.out
    exact Lib.hid ((k1.alloc k1.size _).trans (hb6.mono (by have := k1.size; simp; omega)))
  clear hb6 HB5
  go_wp2_with fail
  go_ret
  exact ⟨rfl, HB6.out⟩
theorem known2_any (s : ByteArray) (w : World) (hs : s.size ≤ 140737488351232) :
    Calls Try.prog 4 #[.string s] w fun e w' => e = .returned (.bool true) ∧ Below w.heap.size w w' := by
  by_cases h : s.size ≤ 800
  · exact known2_in s w h
  · exact known2_out s w (by omega) hs
end Go.Proofs.Ytgefaknpeflggaa
