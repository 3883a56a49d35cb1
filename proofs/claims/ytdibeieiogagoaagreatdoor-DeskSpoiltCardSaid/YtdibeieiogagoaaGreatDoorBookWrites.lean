/-
  masonrybook's lists of writes: lent, kept, held against each other. No statement is proved here.
-/
import Derived.Test.YtdibeieiogagoaaGreatDoorBookInts
import Derived.Test.YtdibeieiogagoaaGreatDoorDiskClone
namespace Go.Proofs.YtdibeieiogagoaaGreatDoor
open Go.RowKit

def flatI (l : List (Int × ByteArray)) : List Value := l.flatMap fun x => [.int .i64 x.1, .string x.2]
theorem flatI_len (l : List (Int × ByteArray)) : (flatI l).length = l.length * 2 := by
  induction l with
  | nil => rfl
  | cons x r ih => show (_ :: _ :: flatI r).length = _; rw [List.length_cons, List.length_cons, ih, List.length_cons]; omega
theorem flatI_get {l : List (Int × ByteArray)} {j : Nat} {x : Int × ByteArray} (h : l[j]? = some x) : (flatI l)[2 * j]? = some (.int .i64 x.1) ∧ (flatI l)[2 * j + 1]? = some (.string x.2) := by
  induction l generalizing j with
  | nil => cases h
  | cons y r ih =>
    have e : flatI (y :: r) = .int .i64 y.1 :: .string y.2 :: flatI r := rfl
    rw [e]
    cases j with
    | zero =>
      rw [List.getElem?_cons_zero] at h
      injection h with h
      subst h
      exact ⟨rfl, rfl⟩
    | succ j =>
      rw [List.getElem?_cons_succ] at h
      have := ih h
      rw [show 2 * (j + 1) = (2 * j + 1) + 1 by omega, show (2 * j + 1) + 1 + 1 = (2 * j + 1 + 1) + 1 by omega]
      simp only [List.getElem?_cons_succ]
      exact this
theorem flatI_cells {l : List (Int × ByteArray)} {f : Nat → Option Value} (h : ∀ (j : Nat) (x : Int × ByteArray), l[j]? = some x → f (j * 2) = some (.int .i64 x.1) ∧ f (j * 2 + 1) = some (.string x.2)) : ∀ (j : Nat) (u : Value), (flatI l)[j]? = some u → f j = some u := by
  intro j u hu
  have hj : j < l.length * 2 := by
    rcases Nat.lt_or_ge j (l.length * 2) with h | h
    · exact h
    · rw [List.getElem?_eq_none (by rw [flatI_len]; exact h)] at hu; cases hu
  obtain ⟨x, hx⟩ : ∃ x, l[j / 2]? = some x := ⟨l[j / 2]'(by omega), List.getElem?_eq_getElem (by omega)⟩
  obtain ⟨q1, q2⟩ := flatI_get hx
  obtain ⟨h1, h2⟩ := h _ _ hx
  rcases Nat.mod_two_eq_zero_or_one j with e | e
  · have ej : 2 * (j / 2) = j := by omega
    have ej' : j / 2 * 2 = j := by omega
    rw [ej] at q1
    rw [ej'] at h1
    rw [hu] at q1
    rw [h1, ← q1]
  · have ej : 2 * (j / 2) + 1 = j := by omega
    have ej' : j / 2 * 2 + 1 = j := by omega
    rw [ej] at q2
    rw [ej'] at h2
    rw [hu] at q2
    rw [h2, ← q2]
theorem flatI_one {l : List (Int × ByteArray)} : ∀ u ∈ flatI l, u.oneCell' = true := by
  intro u hu
  unfold flatI at hu
  simp only [List.mem_flatMap] at hu
  obtain ⟨x, _, hu⟩ := hu
  simp at hu
  rcases hu with rfl | rfl <;> rfl

/-- A list of writes as a slice: nil, empty or not. -/
def WIn (w : World) (A : Option Addr) (l : List (Int × ByteArray)) : Prop :=
  0 < l.length → ∃ b off, A = some ⟨b, off, none⟩ ∧ b < w.heap.size ∧ ∀ (j : Nat) (x : Int × ByteArray), l[j]? = some x → w.cell? ⟨b, off + j * 2, none⟩ = some (.int .i64 x.1) ∧ w.cell? ⟨b, off + j * 2 + 1, none⟩ = some (.string x.2)
theorem WIn.below {w w' : World} {A : Option Addr} {l : List (Int × ByteArray)} (h : WIn w A l) (hb : Below w.heap.size w w') : WIn w' A l := fun hp => by
  obtain ⟨b, off, e, hl, hc⟩ := h hp
  exact ⟨b, off, e, Nat.lt_of_lt_of_le hl hb.size, fun j x hx => ⟨(hb.cell (p := ⟨b, off + j * 2, none⟩) hl).trans (hc j x hx).1, (hb.cell (p := ⟨b, off + j * 2 + 1, none⟩) hl).trans (hc j x hx).2⟩⟩

/-- A list lent: it lies in a block of its own, with a mark behind it that it has room for. -/
def LentW (w : World) (B g cap : Nat) (xs : List (Int × ByteArray)) : Prop :=
  B ≤ g ∧ g < w.heap.size ∧ xs.length + 1 ≤ cap ∧ cap ≤ 9223372036854775807 ∧ ∀ (j : Nat) (x : Int × ByteArray), (xs ++ [(-77, ⟨#[]⟩)])[j]? = some x → w.cell? ⟨g, j * 2, none⟩ = some (.int .i64 x.1) ∧ w.cell? ⟨g, j * 2 + 1, none⟩ = some (.string x.2)
theorem LentW.below {w w' : World} {B g cap : Nat} {xs : List (Int × ByteArray)} (h : LentW w B g cap xs) (hb : Below w.heap.size w w') : LentW w' B g cap xs := by
  obtain ⟨h0, h1, h2, h3, h4⟩ := h
  exact ⟨h0, Nat.lt_of_lt_of_le h1 hb.size, h2, h3, fun j x hx => ⟨(hb.cell (p := ⟨g, j * 2, none⟩) h1).trans (h4 j x hx).1, (hb.cell (p := ⟨g, j * 2 + 1, none⟩) h1).trans (h4 j x hx).2⟩⟩
theorem LentW.wrts {w : World} {B g cap : Nat} {xs : List (Int × ByteArray)} (h : LentW w B g cap xs) : WIn w (some ⟨g, 0, none⟩) xs := by
  obtain ⟨h0, h1, h2, h3, h4⟩ := h
  intro _
  refine ⟨g, 0, rfl, h1, fun j x hx => ?_⟩
  rw [Nat.zero_add]
  have hj : j < xs.length := by
    rcases Nat.lt_or_ge j xs.length with h | h
    · exact h
    · rw [List.getElem?_eq_none h] at hx; cases hx
  exact h4 j x (by rw [List.getElem?_append_left hj]; exact hx)

end Go.Proofs.YtdibeieiogagoaaGreatDoor
