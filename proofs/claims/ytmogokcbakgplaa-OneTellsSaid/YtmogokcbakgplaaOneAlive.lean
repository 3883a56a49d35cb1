/-
  The statements' first call: a digest that the document fixes.
-/
import Derived.Test.YtmogokcbakgplaaOneSum
import Derived.Test.YtmogokcbakgplaaOneHex
namespace Go.Proofs.Ytmogokcbakgplaa
open Go.RowKit

theorem one_abc' : hexB (oneB (cats [⟨#[97]⟩, ⟨#[98, 99]⟩])) = [97, 57, 57, 57, 51, 101, 51, 54, 52, 55, 48, 54, 56, 49, 54, 97, 98, 97, 51, 101, 50, 53, 55, 49, 55, 56, 53, 48, 99, 50, 54, 99, 57, 99, 100, 48, 100, 56, 57, 100] := one_abc
/-- The digest of texts as a text. -/
def oneT (xs : List ByteArray) : ByteArray := ⟨(oneB (cats xs)).toArray⟩
theorem oneT_size (xs : List ByteArray) : (oneT xs).size = 20 := by show (oneB (cats xs)).toArray.size = 20; simp [oneB_length]
theorem oneT_list (xs : List ByteArray) : (oneT xs).data.toList = oneB (cats xs) := rfl

set_option maxRecDepth 100000 in
set_option maxHeartbeats 1000000 in
theorem alive3_any (w : World) : Calls Try.prog 8 #[] w fun e w' => e = .returned (.bool true) ∧ Below w.heap.size w w' := by
  obtain ⟨T, hT⟩ : ∃ T, T = oneT [⟨#[97]⟩, ⟨#[98, 99]⟩] := ⟨_, rfl⟩
  have HS : Hid (∀ (w1 : World) (g : Nat), Txts w1 w1.heap.size (some ⟨g, 0, none⟩) [⟨#[97]⟩, ⟨#[98, 99]⟩] → Calls Try.prog 11 #[.slice (some ⟨g, 0, none⟩) 2 2] w1 fun e w' => e = .returned (.string T) ∧ Below w1.heap.size w1 w') :=
    Lib.hid (fun w1 g h => by rw [hT]; exact sum_any _ 2 2 _ w1 rfl h (by omega) (by decide))
  have hts : T.size = 20 := by rw [hT]; exact oneT_size _
  have HH : Hid (∀ w1, Calls Try.prog 16 #[.string T] w1 fun e w' => e = .returned (.string ⟨#[97, 57, 57, 57, 51, 101, 51, 54, 52, 55, 48, 54, 56, 49, 54, 97, 98, 97, 51, 101, 50, 53, 55, 49, 55, 56, 53, 48, 99, 50, 54, 99, 57, 99, 100, 48, 100, 56, 57, 100]⟩) ∧ Below w1.heap.size w1 w') :=
    Lib.hid (fun w1 => by
      have := hex_any T w1 (by omega) (by omega)
      rw [hT, oneT_list, one_abc'] at this
      rw [hT]
      exact this)
  clear hT hts
  go_enter Try.func8, Try.ntmps8
  go_wp2_with (go_at_call 11; refine (HS.out _ _ (txts_at _ _ _ _ rfl rfl)).mono ?_; rintro e w1 ⟨rfl, hb1⟩)
  go_wp2_with (go_at_call 16; refine (HH.out _).mono ?_; rintro e w2 ⟨rfl, hb2⟩)
  go_wp2_with fail
  go_ret
  have k1 : Below w.heap.size w w1 := ((Below.refl _ _).alloc (Nat.le_refl _) _).trans (hb1.mono (by simp))
  exact ⟨rfl, k1.trans (hb2.mono k1.size)⟩
end Go.Proofs.Ytmogokcbakgplaa
