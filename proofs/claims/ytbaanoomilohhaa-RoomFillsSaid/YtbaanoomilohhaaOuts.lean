/-
  The writer of package bits, call by call: what each leaves of it; of a nil writer nothing is laid.
-/
import Derived.Test.YtbaanoomilohhaaNums
import Derived.Test.YtbaanoomilohhaaTexts
import Derived.Test.YtbaanoomilohhaaEnd
namespace Go.Proofs.Ytbaanoomilohhaa
open Go.RowKit

/-- What may stand in a list of numbers. -/
def InRange (xs : List Int) : Prop := ∀ x ∈ xs, -9223372036854775808 ≤ x ∧ x ≤ 9223372036854775807

/-- Short lists, as they stand in new blocks. -/
theorem ints_new (w : World) (xs : List Int) : Ints (w.alloc (.cells (xs.map (Value.int .i64)).toArray 3)) (w.alloc (.cells (xs.map (Value.int .i64)).toArray 3)).heap.size (some ⟨w.heap.size, 0, none⟩) xs := by
  intro _
  refine ⟨w.heap.size, 0, rfl, by simp, fun j x hx => ?_⟩
  have := (Blk.new w 3 (xs.map (Value.int .i64)).toArray).cell (0 + j)
  rw [this]
  simp [hx]
theorem inRange_of {xs : List Int} (h : xs.all (fun x => decide (-9223372036854775808 ≤ x) && decide (x ≤ 9223372036854775807)) = true) : InRange xs := by
  intro x hx
  have := List.all_eq_true.1 h x hx
  simpa using this

theorem inRange_one {n : Int} (h0 : -9223372036854775808 ≤ n) (h1 : n ≤ 9223372036854775807) : InRange [n] := by
  intro x hx
  simp at hx
  subst hx
  exact ⟨h0, h1⟩
/-- A list that stands in the newest block. -/
theorem ints_at (w : World) (cs : Array Value) (xs : List Int) (g : Nat) (hg : w.heap.size = g) (hcs : cs = (xs.map (Value.int .i64)).toArray) :
    Ints (w.alloc (.cells cs 3)) (w.alloc (.cells cs 3)).heap.size (some ⟨g, 0, none⟩) xs := by
  subst hg; subst hcs
  exact ints_new w xs
theorem Wr.ok_zero (l : List UInt8) : (Wr.mk l 0).ok := fun h => (h rfl).elim
end Go.Proofs.Ytbaanoomilohhaa
