/-
  masonrybook's lists of numbers over XNums' Ints: lent, kept, held against each other. No statement is proved here.
-/
import Derived.Test.YtbaanoomilohhaaHeadReadAny
namespace Go.Proofs.Ytbaanoomilohhaa
open Go.RowKit

theorem kints_cells {w : World} {B b off : Nat} {xs : List Int} (hc : ∀ (j : Nat) (x : Int), xs[j]? = some x → w.cell? ⟨b, off + j, none⟩ = some (.int .i64 x)) (_hB : b < B) :
    ∀ (j : Nat) (u : Value), (xs.map (Value.int .i64))[j]? = some u → w.cell? ((⟨b, off, none⟩ : Addr).add j) = some u := by
  intro j u hu
  rw [List.getElem?_map] at hu
  obtain ⟨x, hx, rfl⟩ := Option.map_eq_some_iff.1 hu
  rw [Go.WideShapes.add_plain]
  exact hc j x hx

/-- A list lent: it lies in a block of its own, with a mark behind it that it has room for. -/
def LentK (w : World) (B g cap : Nat) (xs : List Int) : Prop :=
  B ≤ g ∧ g < w.heap.size ∧ xs.length + 1 ≤ cap ∧ cap ≤ 9223372036854775807 ∧ ∀ (j : Nat) (x : Int), (xs ++ [(-77)])[j]? = some x → w.cell? ⟨g, j, none⟩ = some (.int .i64 x)
theorem LentK.below {w w' : World} {B g cap : Nat} {xs : List Int} (h : LentK w B g cap xs) (hb : Below w.heap.size w w') : LentK w' B g cap xs := by
  obtain ⟨h0, h1, h2, h3, h4⟩ := h
  exact ⟨h0, Nat.lt_of_lt_of_le h1 hb.size, h2, h3, fun j x hx => (hb.cell (p := ⟨g, j, none⟩) h1).trans (h4 j x hx)⟩
theorem LentK.ints {w : World} {B g cap : Nat} {xs : List Int} (h : LentK w B g cap xs) : Ints w w.heap.size (some ⟨g, 0, none⟩) xs := by
  obtain ⟨h0, h1, h2, h3, h4⟩ := h
  intro _
  refine ⟨g, 0, rfl, h1, fun j x hx => ?_⟩
  rw [Nat.zero_add]
  have hj : j < xs.length := by
    rcases Nat.lt_or_ge j xs.length with h | h
    · exact h
    · rw [List.getElem?_eq_none h] at hx; cases hx
  exact h4 j x (by rw [List.getElem?_append_left hj]; exact hx)


end Go.Proofs.Ytbaanoomilohhaa
