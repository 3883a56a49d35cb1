/-
  masonrybook's marks of a list of numbers. No statement is proved here.
-/
import Derived.Test.YtbaanoomilohhaaBookList
namespace Go.Proofs.Ytbaanoomilohhaa
open Go.RowKit

/-- The mark of list i at place k; so many of them from a place on. -/
def markAt (i k : Nat) : Int := -1000000 * (i : Int) - (k : Int) - 7
def marksOf (i a n : Nat) : List Int := (List.range n).map fun j => markAt i (a + j)
theorem marksOf_length (i a n : Nat) : (marksOf i a n).length = n := by simp [marksOf]
theorem marksOf_snoc (i a n : Nat) : marksOf i a (n + 1) = marksOf i a n ++ [markAt i (a + n)] := by simp [marksOf, List.range_succ]
theorem marksOf_get {i a n j : Nat} (h : j < n) : (marksOf i a n)[j]? = some (markAt i (a + j)) := by
  unfold marksOf
  rw [List.getElem?_map, List.getElem?_range h]
  rfl
theorem marksOf_append (i a n m : Nat) : marksOf i a n ++ marksOf i (a + n) m = marksOf i a (n + m) := by
  apply List.ext_getElem?
  intro j
  rcases Nat.lt_or_ge j n with h | h
  · rw [List.getElem?_append_left (by rw [marksOf_length]; exact h), marksOf_get h, marksOf_get (by omega)]
  · rw [List.getElem?_append_right (by rw [marksOf_length]; exact h), marksOf_length]
    rcases Nat.lt_or_ge j (n + m) with h2 | h2
    · rw [marksOf_get (by omega), marksOf_get h2]
      congr 2
      omega
    · rw [List.getElem?_eq_none (by rw [marksOf_length]; omega), List.getElem?_eq_none (by rw [marksOf_length]; omega)]

end Go.Proofs.Ytbaanoomilohhaa
