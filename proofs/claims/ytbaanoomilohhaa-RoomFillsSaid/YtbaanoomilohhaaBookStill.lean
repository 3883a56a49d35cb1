/-
  masonrybook's lists of numbers that are kept: is each what it was? No statement is proved here.
-/
import Derived.Test.YtbaanoomilohhaaBookMark
import Derived.Test.YtbaanoomilohhaaGrow
namespace Go.Proofs.Ytbaanoomilohhaa
open Go.RowKit

/-- A list of numbers as a slice. -/
structure LI where
  A : Option Addr
  c : Nat
  xs : List Int
def LI.val (l : LI) : Value := .slice l.A l.xs.length l.c
/-- A row of values that can be read. -/
def RowAt (w : World) (p : Option Addr) (vs : List Value) : Prop := 0 < vs.length → ∃ b off, p = some ⟨b, off, none⟩ ∧ b < w.heap.size ∧ ∀ (j : Nat) (v : Value), vs[j]? = some v → w.cell? ⟨b, off + j, none⟩ = some v
theorem RowAt.below {w w' : World} {p : Option Addr} {vs : List Value} (h : RowAt w p vs) (hb : Below w.heap.size w w') : RowAt w' p vs := fun hp => by
  obtain ⟨b, off, e, hbl, hc⟩ := h hp
  exact ⟨b, off, e, Nat.lt_of_lt_of_le hbl hb.size, fun j v hv => (hb.cell (p := ⟨b, off + j, none⟩) hbl).trans (hc j v hv)⟩
theorem RowAt.get {w : World} {p : Option Addr} {ls : List LI} {j : Nat} {l : LI} (h : RowAt w p (ls.map LI.val)) (hl : ls[j]? = some l) : ∃ b off, p = some ⟨b, off, none⟩ ∧ ∀ w', Below w.heap.size w w' → w'.cell? ⟨b, off + j, none⟩ = some l.val := by
  have hj : j < ls.length := by
    rcases Nat.lt_or_ge j ls.length with h | h
    · exact h
    · rw [List.getElem?_eq_none h] at hl; cases hl
  obtain ⟨b, off, e, hbl, hc⟩ := h (by rw [List.length_map]; omega)
  exact ⟨b, off, e, fun w' hw => (hw.cell (p := ⟨b, off + j, none⟩) hbl).trans (hc j _ (by rw [List.getElem?_map, hl]; rfl))⟩

end Go.Proofs.Ytbaanoomilohhaa
