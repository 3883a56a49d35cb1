/-
  The document's Size of a kind (package masonryref1); a print of texts is one that may be.
-/
import Derived.Test.YtokddfbjjghpkaaDoorMarkRead
namespace Go.Proofs.YtokddfbjjghpkaaDoor
open Go.RowKit

theorem kind_of {k : Int} (h : sizeK k ≠ 0) : k = 1 ∨ k = 2 := by
  by_cases h1 : k = 1
  · exact .inl h1
  · by_cases h2 : k = 2
    · exact .inr h2
    · exact absurd (sizeK_other h1 h2) h
theorem printOf_size {k : Int} (h : sizeK k ≠ 0) (xs : List ByteArray) : ((printOf k xs).size : Int) = sizeK k := by
  rcases kind_of h with rfl | rfl
  · show (((oneB (cats xs)).toArray.size : Nat) : Int) = 20
    rw [List.size_toArray, oneB_length]
    rfl
  · show (((twoB (cats xs)).toArray.size : Nat) : Int) = 32
    rw [List.size_toArray, twoB_length]
    rfl
theorem printOf_valid {k : Int} (h : sizeK k ≠ 0) (xs : List ByteArray) : validK k (printOf k xs) = true := by
  have h1 := printOf_size h xs
  have h2 := sizeK_range k
  simp only [validK, Bool.and_eq_true, decide_eq_true_eq]
  exact ⟨by omega, h1⟩
theorem ofV_yes {k : Int} (h : sizeK k ≠ 0) (xs : List ByteArray) : ofV k xs = .tuple #[.agg #[.int .i64 k, .string (printOf k xs)], .int .i64 0] := if_neg h
theorem layV_yes {k : Int} {s : ByteArray} (h : validK k s = true) : layV k s = .tuple #[.string ⟨(layB k s).toArray⟩, .int .i64 0] := if_pos h
end Go.Proofs.YtokddfbjjghpkaaDoor
