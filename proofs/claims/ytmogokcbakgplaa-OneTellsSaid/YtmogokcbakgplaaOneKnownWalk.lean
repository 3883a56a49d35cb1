/-
  OneKnown, walked.
-/
import Derived.Test.YtmogokcbakgplaaOneAlive
namespace Go.Proofs.Ytmogokcbakgplaa
open Go.RowKit

/-- The text of 56 bytes. -/
def text56 : ByteArray := ⟨#[97, 98, 99, 100, 98, 99, 100, 101, 99, 100, 101, 102, 100, 101, 102, 103, 101, 102, 103, 104, 102, 103, 104, 105, 103, 104, 105, 106, 104, 105, 106, 107, 105, 106, 107, 108, 106, 107, 108, 109, 107, 108, 109, 110, 108, 109, 110, 111, 109, 110, 111, 112, 110, 111, 112, 113]⟩
def hex56 : ByteArray := ⟨#[56, 52, 57, 56, 51, 101, 52, 52, 49, 99, 51, 98, 100, 50, 54, 101, 98, 97, 97, 101, 52, 97, 97, 49, 102, 57, 53, 49, 50, 57, 101, 53, 101, 53, 52, 54, 55, 48, 102, 49]⟩
theorem one_none : hexB (oneB []) = [100, 97, 51, 57, 97, 51, 101, 101, 53, 101, 54, 98, 52, 98, 48, 100, 51, 50, 53, 53, 98, 102, 101, 102, 57, 53, 54, 48, 49, 56, 57, 48, 97, 102, 100, 56, 48, 55, 48, 57] := by decide +kernel
theorem one_56 : hexB (oneB (cats [text56])) = hex56.data.toList := by decide +kernel

theorem sum_list (T : ByteArray) (xs : List ByteArray) (hT : T = oneT xs) (n : Nat) (hn : xs.length = n) (hn1 : n ≤ 1000) (hs : (cats xs).length ≤ 100000) (w1 : World) (g c : Nat) (h : Txts w1 w1.heap.size (some ⟨g, 0, none⟩) xs) :
    Calls Try.prog 11 #[.slice (some ⟨g, 0, none⟩) n c] w1 fun e w' => e = .returned (.string T) ∧ Below w1.heap.size w1 w' := by
  rw [hT]
  exact sum_any _ n c xs w1 hn h (by omega) (by omega)

set_option maxRecDepth 100000 in
set_option maxHeartbeats 2000000 in
theorem known_out (s : ByteArray) (w : World) (h : 800 < s.size) (hs : s.size ≤ 140737488351232) :
    Calls Try.prog 5 #[.string s] w fun e w' => e = .returned (.bool true) ∧ Below w.heap.size w w' := by
  have hI : (800 : Int) < (s.size : Int) := by omega
  go_enter Try.func5, Try.ntmps5
  go_wp2_with (go_at_call 8; refine (alive3_any _).mono ?_; rintro e w1 ⟨rfl, hb1⟩)
  go_wp2_with fail
  go_ret
  exact ⟨rfl, hb1⟩

set_option maxRecDepth 100000 in
set_option maxHeartbeats 4000000 in
theorem known_in (s : ByteArray) (w : World) (h : s.size ≤ 800) :
    Calls Try.prog 5 #[.string s] w fun e w' => e = .returned (.bool true) ∧ Below w.heap.size w w' := by
  have hsl : s.data.toList.length ≤ 800 := by rw [← Lib.size_eq]; exact h
  obtain ⟨T0, hT0⟩ : ∃ T, T = oneT [⟨#[]⟩] := ⟨_, rfl⟩
  obtain ⟨T5, hT5⟩ : ∃ T, T = oneT [text56] := ⟨_, rfl⟩
  obtain ⟨TS, hTS⟩ : ∃ T, T = oneT [s] := ⟨_, rfl⟩
  have hc2 : cats [s, ⟨#[]⟩] = cats [s] := by simp [cats]
  have h2 : TS = oneT [s, ⟨#[]⟩] := by rw [hTS]; unfold oneT; rw [hc2]
  have HS0 := Lib.hid (sum_list T0 _ hT0 1 rfl (by omega) (by decide))
  have HS5 := Lib.hid (sum_list T5 _ hT5 1 rfl (by omega) (by decide))
  have HSS := Lib.hid (sum_list TS _ hTS 1 rfl (by omega) (by simp [cats] <;> omega))
  have HS2 := Lib.hid (sum_list TS _ h2 2 rfl (by omega) (by simp [cats] <;> omega))
  have HH0 : Hid (∀ w1, Calls Try.prog 16 #[.string T0] w1 fun e w' => e = .returned (.string ⟨#[100, 97, 51, 57, 97, 51, 101, 101, 53, 101, 54, 98, 52, 98, 48, 100, 51, 50, 53, 53, 98, 102, 101, 102, 57, 53, 54, 48, 49, 56, 57, 48, 97, 102, 100, 56, 48, 55, 48, 57]⟩) ∧ Below w1.heap.size w1 w') :=
    Lib.hid (fun w1 => by
      have := hex_any T0 w1 (by rw [hT0, oneT_size]; omega) (by rw [hT0, oneT_size]; omega)
      rw [hT0, oneT_list, show cats [⟨#[]⟩] = [] from rfl, one_none] at this
      rw [hT0]
      exact this)
  have HH5 : Hid (∀ w1, Calls Try.prog 16 #[.string T5] w1 fun e w' => e = .returned (.string ⟨#[56, 52, 57, 56, 51, 101, 52, 52, 49, 99, 51, 98, 100, 50, 54, 101, 98, 97, 97, 101, 52, 97, 97, 49, 102, 57, 53, 49, 50, 57, 101, 53, 101, 53, 52, 54, 55, 48, 102, 49]⟩) ∧ Below w1.heap.size w1 w') :=
    Lib.hid (fun w1 => by
      have := hex_any T5 w1 (by rw [hT5, oneT_size]; omega) (by rw [hT5, oneT_size]; omega)
      rw [hT5, oneT_list, one_56] at this
      rw [hT5]
      exact this)
  have hsz : TS.size = 20 := by rw [hTS]; exact oneT_size _
  clear hT0 hT5 hTS h2 hsl hc2
  go_enter Try.func5, Try.ntmps5
  go_wp2_with (go_at_call 8; refine (alive3_any _).mono ?_; rintro e w1 ⟨rfl, hb1⟩)
  have HB1 := Lib.hid hb1
  clear hb1
  go_wp2_with (go_at_call 11; refine (HS0.out _ _ _ (txts_at _ _ _ _ rfl rfl)).mono ?_; rintro e w2 ⟨rfl, hb2⟩)
  go_wp2_with (go_at_call 16; refine (HH0.out _).mono ?_; rintro e w3 ⟨rfl, hb3⟩)
  have HB3 : Hid (Below w.heap.size w w3) := by
    have k1 := HB1.out
    have k2 : Below w.heap.size w w2 := (k1.alloc k1.size _).trans (hb2.mono (by have := k1.size; simp; omega))
    exact Lib.hid (k2.trans (hb3.mono k2.size))
  clear hb2 hb3 HB1
  go_wp2_with (go_at_call 11; refine (HS5.out _ _ _ (txts_at _ _ _ _ rfl rfl)).mono ?_; rintro e w4 ⟨rfl, hb4⟩)
  go_wp2_with (go_at_call 16; refine (HH5.out _).mono ?_; rintro e w5 ⟨rfl, hb5⟩)
  have HB5 : Hid (Below w.heap.size w w5) := by
    have k1 := HB3.out
    have k2 : Below w.heap.size w w4 := (k1.alloc k1.size _).trans (hb4.mono (by have := k1.size; simp; omega))
    exact Lib.hid (k2.trans (hb5.mono k2.size))
  clear hb4 hb5 HB3
  go_wp2_with fail
  have hx6 : Txts (w5.alloc (.cells #[.string s] 9)) (w5.alloc (.cells #[.string s] 9)).heap.size (some ⟨w5.heap.size, 0, none⟩) [s] := txts_at _ _ _ _ rfl rfl
  refine (HSS.out _ _ _ hx6).mono ?_
  rintro e w6 ⟨rfl, hb6⟩
  clear hx6
  have HB6 : Hid (Below w.heap.size w w6) := by
    have k1 := HB5.out
    exact Lib.hid ((k1.alloc k1.size _).trans (hb6.mono (by have := k1.size; simp; omega)))
  clear hb6 HB5
  go_wp2_with fail
  have hx7 : Txts (w6.alloc (.cells #[.string s] 9)) (w6.alloc (.cells #[.string s] 9)).heap.size (some ⟨w6.heap.size, 0, none⟩) [s] := txts_at _ _ _ _ rfl rfl
  refine (HSS.out _ _ _ hx7).mono ?_
  rintro e w7 ⟨rfl, hb7⟩
  clear hx7
  have HB7 : Hid (Below w.heap.size w w7) := by
    have k1 := HB6.out
    exact Lib.hid ((k1.alloc k1.size _).trans (hb7.mono (by have := k1.size; simp; omega)))
  clear hb7 HB6
  go_wp2_with fail
  have hx8 : Txts (w7.alloc (.cells #[.string s, .string ⟨#[]⟩] 9)) (w7.alloc (.cells #[.string s, .string ⟨#[]⟩] 9)).heap.size (some ⟨w7.heap.size, 0, none⟩) [s, ⟨#[]⟩] := txts_at _ _ _ _ rfl rfl
  refine (HS2.out _ _ _ hx8).mono ?_
  rintro e w8 ⟨rfl, hb8⟩
  clear hx8
  have HB8 : Hid (Below w.heap.size w w8) := by
    have k1 := HB7.out
    exact Lib.hid ((k1.alloc k1.size _).trans (hb8.mono (by have := k1.size; simp; omega)))
  clear hb8 HB7
  go_wp2_with fail
  go_ret
  exact ⟨rfl, HB8.out⟩
theorem known_any (s : ByteArray) (w : World) (hs : s.size ≤ 140737488351232) :
    Calls Try.prog 5 #[.string s] w fun e w' => e = .returned (.bool true) ∧ Below w.heap.size w w' := by
  by_cases h : s.size ≤ 800
  · exact known_in s w h
  · exact known_out s w (by omega) hs
end Go.Proofs.Ytmogokcbakgplaa
