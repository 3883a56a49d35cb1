/-
  The statements' first call of SHA-256: a digest that the document fixes.
-/
import Derived.Test.YtgefaknpeflggaaTwoSum
import Derived.Test.YtgefaknpeflggaaOneHex
namespace Go.Proofs.Ytgefaknpeflggaa
open Go.RowKit

theorem two_abc' : hexB (twoB (cats [⟨#[97, 98, 99]⟩])) = [98, 97, 55, 56, 49, 54, 98, 102, 56, 102, 48, 49, 99, 102, 101, 97, 52, 49, 52, 49, 52, 48, 100, 101, 53, 100, 97, 101, 50, 50, 50, 51, 98, 48, 48, 51, 54, 49, 97, 51, 57, 54, 49, 55, 55, 97, 57, 99, 98, 52, 49, 48, 102, 102, 54, 49, 102, 50, 48, 48, 49, 53, 97, 100] := two_abc
/-- The digest of texts as a text. -/
def twoT (xs : List ByteArray) : ByteArray := ⟨(twoB (cats xs)).toArray⟩
theorem twoT_size (xs : List ByteArray) : (twoT xs).size = 32 := by show (twoB (cats xs)).toArray.size = 32; simp [twoB_length]
theorem twoT_list (xs : List ByteArray) : (twoT xs).data.toList = twoB (cats xs) := rfl
theorem sum_list2 (T : ByteArray) (xs : List ByteArray) (hT : T = twoT xs) (n : Nat) (hn : xs.length = n) (hn1 : n ≤ 1000) (hs : (cats xs).length ≤ 100000) (w1 : World) (g c : Nat) (hc : n ≤ c) (h : Txts w1 w1.heap.size (some ⟨g, 0, none⟩) xs) :
    Calls Try.prog 12 #[.slice (some ⟨g, 0, none⟩) n c] w1 fun e w' => e = .returned (.string T) ∧ Below w1.heap.size w1 w' := by
  rw [hT]
  exact sum_two _ n c xs w1 hn h hc (by omega) (by omega)

set_option maxRecDepth 100000 in
set_option maxHeartbeats 1000000 in
theorem alive4_any (w : World) : Calls Try.prog 8 #[] w fun e w' => e = .returned (.bool true) ∧ Below w.heap.size w w' := by
  obtain ⟨T, hT⟩ : ∃ T, T = twoT [⟨#[97, 98, 99]⟩] := ⟨_, rfl⟩
  have HS := Lib.hid (sum_list2 T _ hT 1 rfl (by omega) (by decide))
  have hts : T.size = 32 := by rw [hT]; exact twoT_size _
  have HH : Hid (∀ w1, Calls Try.prog 16 #[.string T] w1 fun e w' => e = .returned (.string ⟨#[98, 97, 55, 56, 49, 54, 98, 102, 56, 102, 48, 49, 99, 102, 101, 97, 52, 49, 52, 49, 52, 48, 100, 101, 53, 100, 97, 101, 50, 50, 50, 51, 98, 48, 48, 51, 54, 49, 97, 51, 57, 54, 49, 55, 55, 97, 57, 99, 98, 52, 49, 48, 102, 102, 54, 49, 102, 50, 48, 48, 49, 53, 97, 100]⟩) ∧ Below w1.heap.size w1 w') :=
    Lib.hid (fun w1 => by
      have := hex_any T w1 (by omega) (by omega)
      rw [hT, twoT_list, two_abc'] at this
      rw [hT]
      exact this)
  clear hT hts
  go_enter Try.func8, Try.ntmps8
  go_wp2_with (go_at_call 12; refine (HS.out _ _ _ (by omega) (txts_at _ _ _ _ rfl rfl)).mono ?_; rintro e w1 ⟨rfl, hb1⟩)
  go_wp2_with (go_at_call 16; refine (HH.out _).mono ?_; rintro e w2 ⟨rfl, hb2⟩)
  go_wp2_with fail
  go_ret
  have k1 : Below w.heap.size w w1 := ((Below.refl _ _).alloc (Nat.le_refl _) _).trans (hb1.mono (by simp))
  exact ⟨rfl, k1.trans (hb2.mono k1.size)⟩
end Go.Proofs.Ytgefaknpeflggaa
