/-
  masonrybook's lists of writes: lent, kept, held against each other. No statement is proved here.
-/
import Derived.Test.YtiagofgcinlnhaaGreatDoorShelf
import Derived.WalkKit
import Derived.ProofKit
import Derived.OpenShut
import Derived.SliceStrings
import Derived.ChangeSlices
import Derived.Test.YtiagofgcinlnhaaGreatDoorDiskAlive
import Derived.Laws.BitsLemmas
import Derived.Test.YtiagofgcinlnhaaGreatDoorDiskClone
namespace Go.Proofs.YtiagofgcinlnhaaGreatDoor
open Go.ChangeShapes Go.WideShapes Go.ChangeAt Go.RowKit
open Go.WideMaps Go.WideElems
theorem laidOut : laidOutB Tryz.prog = true := by kernel_rfl
structure TextsIn (w : World) (A : Option Addr) (m c : Nat) (xs : List ByteArray) : Prop where
  len : xs.length = m
  lie : Txts w w.heap.size A xs
  nil_ : A = none → c = 0
  few : m ≤ 9223372036854775807
  short : ∀ x ∈ xs, x.size ≤ 9223372036854775807
theorem plain_at {W : World} {a : Addr} {n : Nat} {f : Nat → Value} (h : ∀ i, i < n → W.cell? (a.add i) = some (f i)) (hp : 0 < n) :
    ∃ b off, a = ⟨b, off, none⟩ ∧ b < W.heap.size ∧ ∀ j, j < n → W.cell? ⟨b, off + j, none⟩ = some (f j) := by
  obtain ⟨b, off, spot⟩ := a
  have hspot : spot = none := by simpa [Addr.add] using World.cell?_spot (h 0 hp)
  subst hspot
  have hc : ∀ j, j < n → W.cell? ⟨b, off + j, none⟩ = some (f j) := fun j hj => by rw [← Go.WideShapes.add_plain]; exact h j hj
  exact ⟨b, off, rfl, World.block_lt_of_cell? W _ (hc 0 hp), hc⟩
theorem cellsByte : Tryz.prog.cellsOf 5 = 1 := by kernel_rfl
structure BytesIn (w : World) (A : Option Addr) (m c : Nat) (l : List UInt8) : Prop where
  len : l.length = m
  lie : 0 < l.length → ∃ b off, A = some ⟨b, off, none⟩ ∧ b < w.heap.size ∧ ∀ (j : Nat) (x : UInt8), l[j]? = some x → w.cell? ⟨b, off + j, none⟩ = some (.int .u8 (x.toNat : Int))
  nil_ : A = none → c = 0
  few : m ≤ 9223372036854775807
  cap : m ≤ c
structure IntsIn (w : World) (A : Option Addr) (m c : Nat) (l : List Int) : Prop where
  len : l.length = m
  lie : IntsD w A l
  nil_ : A = none → m = 0 ∧ c = 0
  few : m ≤ 9223372036854775807
  fits : ∀ n ∈ l, -9223372036854775808 ≤ n ∧ n ≤ 9223372036854775807
open Go.RowKit
def LentI (w : World) (B g cap : Nat) (xs : List Int) : Prop :=
  B ≤ g ∧ g < w.heap.size ∧ xs.length + 1 ≤ cap ∧ cap ≤ 9223372036854775807 ∧ ∀ (j : Nat) (x : Int), (xs ++ [(-77)])[j]? = some x → w.cell? ⟨g, j, none⟩ = some (.int .i64 x)
theorem LentI.below {w w' : World} {B g cap : Nat} {xs : List Int} (h : LentI w B g cap xs) (hb : Below w.heap.size w w') : LentI w' B g cap xs := by
  obtain ⟨h0, h1, h2, h3, h4⟩ := h
  exact ⟨h0, Nat.lt_of_lt_of_le h1 hb.size, h2, h3, fun j x hx => (hb.cell (p := ⟨g, j, none⟩) h1).trans (h4 j x hx)⟩
theorem LentI.ints {w : World} {B g cap : Nat} {xs : List Int} (h : LentI w B g cap xs) : IntsD w (some ⟨g, 0, none⟩) xs := by
  obtain ⟨h0, h1, h2, h3, h4⟩ := h
  intro _
  refine ⟨g, 0, rfl, h1, fun j x hx => ?_⟩
  rw [Nat.zero_add]
  have hj : j < xs.length := by
    rcases Nat.lt_or_ge j xs.length with h | h
    · exact h
    · rw [List.getElem?_eq_none h] at hx; cases hx
  exact h4 j x (by rw [List.getElem?_append_left hj]; exact hx)
def flatI (l : List (Int × ByteArray)) : List Value := l.flatMap fun x => [.int .i64 x.1, .string x.2]
theorem flatI_len (l : List (Int × ByteArray)) : (flatI l).length = l.length * 2 := by
  induction l with
  | nil => rfl
  | cons x r ih => show (_ :: _ :: flatI r).length = _; rw [List.length_cons, List.length_cons, ih, List.length_cons]; omega
theorem flatI_get {l : List (Int × ByteArray)} {j : Nat} {x : Int × ByteArray} (h : l[j]? = some x) : (flatI l)[2 * j]? = some (.int .i64 x.1) ∧ (flatI l)[2 * j + 1]? = some (.string x.2) := by
  induction l generalizing j with
  | nil => cases h
  | cons y r ih =>
    have e : flatI (y :: r) = .int .i64 y.1 :: .string y.2 :: flatI r := rfl
    rw [e]
    cases j with
    | zero =>
      rw [List.getElem?_cons_zero] at h
      injection h with h
      subst h
      exact ⟨rfl, rfl⟩
    | succ j =>
      rw [List.getElem?_cons_succ] at h
      have := ih h
      rw [show 2 * (j + 1) = (2 * j + 1) + 1 by omega, show (2 * j + 1) + 1 + 1 = (2 * j + 1 + 1) + 1 by omega]
      simp only [List.getElem?_cons_succ]
      exact this
def WIn (w : World) (A : Option Addr) (l : List (Int × ByteArray)) : Prop :=
  0 < l.length → ∃ b off, A = some ⟨b, off, none⟩ ∧ b < w.heap.size ∧ ∀ (j : Nat) (x : Int × ByteArray), l[j]? = some x → w.cell? ⟨b, off + j * 2, none⟩ = some (.int .i64 x.1) ∧ w.cell? ⟨b, off + j * 2 + 1, none⟩ = some (.string x.2)
theorem WIn.below {w w' : World} {A : Option Addr} {l : List (Int × ByteArray)} (h : WIn w A l) (hb : Below w.heap.size w w') : WIn w' A l := fun hp => by
  obtain ⟨b, off, e, hl, hc⟩ := h hp
  exact ⟨b, off, e, Nat.lt_of_lt_of_le hl hb.size, fun j x hx => ⟨(hb.cell (p := ⟨b, off + j * 2, none⟩) hl).trans (hc j x hx).1, (hb.cell (p := ⟨b, off + j * 2 + 1, none⟩) hl).trans (hc j x hx).2⟩⟩
def LentW (w : World) (B g cap : Nat) (xs : List (Int × ByteArray)) : Prop :=
  B ≤ g ∧ g < w.heap.size ∧ xs.length + 1 ≤ cap ∧ cap ≤ 9223372036854775807 ∧ ∀ (j : Nat) (x : Int × ByteArray), (xs ++ [(-77, ⟨#[]⟩)])[j]? = some x → w.cell? ⟨g, j * 2, none⟩ = some (.int .i64 x.1) ∧ w.cell? ⟨g, j * 2 + 1, none⟩ = some (.string x.2)
theorem LentW.below {w w' : World} {B g cap : Nat} {xs : List (Int × ByteArray)} (h : LentW w B g cap xs) (hb : Below w.heap.size w w') : LentW w' B g cap xs := by
  obtain ⟨h0, h1, h2, h3, h4⟩ := h
  exact ⟨h0, Nat.lt_of_lt_of_le h1 hb.size, h2, h3, fun j x hx => ⟨(hb.cell (p := ⟨g, j * 2, none⟩) h1).trans (h4 j x hx).1, (hb.cell (p := ⟨g, j * 2 + 1, none⟩) h1).trans (h4 j x hx).2⟩⟩
theorem LentW.wrts {w : World} {B g cap : Nat} {xs : List (Int × ByteArray)} (h : LentW w B g cap xs) : WIn w (some ⟨g, 0, none⟩) xs := by
  obtain ⟨h0, h1, h2, h3, h4⟩ := h
  intro _
  refine ⟨g, 0, rfl, h1, fun j x hx => ?_⟩
  rw [Nat.zero_add]
  have hj : j < xs.length := by
    rcases Nat.lt_or_ge j xs.length with h | h
    · exact h
    · rw [List.getElem?_eq_none h] at hx; cases hx
  exact h4 j x (by rw [List.getElem?_append_left hj]; exact hx)
end Go.Proofs.YtiagofgcinlnhaaGreatDoor
