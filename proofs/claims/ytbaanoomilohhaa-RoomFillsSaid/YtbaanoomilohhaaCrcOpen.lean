/-
  crc.Open, whatever is handed over.
-/
import Derived.Test.YtbaanoomilohhaaCrcOf
import Derived.Test.YtbaanoomilohhaaKept
import Derived.Deep.DeepCutAuto
import Derived.Deep.RegionWith
namespace Go.Proofs.Ytbaanoomilohhaa
open Go.RowKit

/-- What Open answers, as values. -/
def openV (l : List UInt8) : Value := .tuple #[.string ⟨(openB l).1.toArray⟩, .int .i64 (openB l).2]

/-- A number's four bytes. -/
theorem num_four (T : ByteArray) (h : T.size = 4) : ((Rd.mk T 0).num 4).1 = (low T.data.toList : Int) := by
  have e : (Rd.mk T 0).take 4 = (T, true, ⟨.empty, 0⟩) := by
    unfold Rd.take
    rw [if_neg (by simp), if_neg (by omega), if_neg (by simp only []; omega)]
    have e1 : T.extract 0 (4 : Int).toNat = T := by
      have : (4 : Int).toNat = T.size := by rw [h]; rfl
      rw [this]
      exact ByteArray.extract_zero_size
    have e2 : T.extract (4 : Int).toNat T.size = .empty := by
      have : (4 : Int).toNat = T.size := by rw [h]; rfl
      rw [this]
      apply ByteArray.ext
      simp
    simp only [e1, e2]
  have hl := low_lt T.data.toList
  have hs : T.data.toList.length = 4 := by rw [← Lib.size_eq]; exact h
  rw [hs] at hl
  unfold Rd.num
  have e' : (Rd.mk T 0).take ((4 : Nat) : Int) = (T, true, ⟨.empty, 0⟩) := e
  rw [e', if_pos rfl, if_neg (by simp only []; omega)]

theorem cats_single (x : ByteArray) : cats [x] = x.data.toList := by simp [cats]
def apartB (a c : Nat) : Bool := ((a : Int) != (c : Int))
theorem openV_of {b H T : ByteArray} {k : Nat} (hk : b.size = k + 4) (hT : T = b.extract k b.size) (hH : H = b.extract 0 k) :
    openV b.data.toList = if low T.data.toList = crc H.data.toList then .tuple #[.string H, .int .i64 0] else .tuple #[.string .empty, .int .i64 7] := by
  have hl : b.data.toList.length = k + 4 := by rw [← Lib.size_eq]; exact hk
  have eT : T.data.toList = b.data.toList.drop k := by
    rw [hT, ByteArray.data_extract, Array.toList_extract, List.extract_eq_take_drop, List.take_of_length_le (by rw [List.length_drop, hl, hk]; exact Nat.le_refl _)]
  have eH : H.data.toList = b.data.toList.take k := by
    rw [hH, ByteArray.data_extract, Array.toList_extract, List.extract_eq_take_drop, List.drop_zero, Nat.sub_zero]
  unfold openV openB
  rw [if_neg (by omega), show b.data.toList.length - 4 = k by omega, ← eT, ← eH]
  split <;> rfl
theorem apartB_no {a c : Nat} (h : a = c) : apartB a c = false := by unfold apartB; rw [h]; simp
theorem apartB_yes {a c : Nat} (h : a ≠ c) : apartB a c = true := by unfold apartB; rw [bne_iff_ne]; omega

section
variable (b H T : ByteArray) (k : Nat) (w0 : World)
/-- The frame ahead of the region. -/
def opF (b : ByteArray) (k : Nat) : Act :=
  ⟨#[.string b, undef, .string .empty, .int .i64 0, .int .i64 k, .string b, .int .i64 b.size, .int .i64 k, .int .i64 k, .bool (decide ((k : Int) < 0)), undef, undef, undef, undef, undef, undef, undef, undef, undef, undef, undef, undef, undef, undef, undef, undef], []⟩
end

end Go.Proofs.Ytbaanoomilohhaa