/-
  The statements' helper over lists of texts (package masonrybook): few and short enough, joined, lent, as they were.
-/
import Derived.Test.YtokddfbjjghpkaaDoorTxts
import Derived.BigCall
import Derived.Deep.AppendLies
import Derived.Deep.RegionHeld3
import Derived.Deep.QuietTactic
import Derived.BigQuiet
namespace Go.Proofs.YtokddfbjjghpkaaDoor
open Go.RowKit

/-- Room of one length. -/
def roomLeft (left x : Int) : Int := if left < 0 ∨ left < x then -1 else left - x

/-- Some truth value; if it is true, the texts are few and short. -/
def SaysShort (few room : Int) (xs : List ByteArray) (e : Ending) : Prop := ∃ r : Bool, e = .returned (.bool r) ∧ (r = true → (xs.length : Int) ≤ few ∧ ((cats xs).length : Int) ≤ room)

/-- All texts, one behind the other. -/
def joined (xs : List ByteArray) : ByteArray := ⟨(cats xs).toArray⟩
theorem joined_list (xs : List ByteArray) : (joined xs).data.toList = cats xs := rfl
theorem joined_size (xs : List ByteArray) : (joined xs).size = (cats xs).length := by rw [Lib.size_eq]; rfl
theorem joined_snoc {xs : List ByteArray} {j : Nat} {x : ByteArray} (h : xs[j]? = some x) : joined (xs.take j) ++ x = joined (xs.take (j + 1)) := by
  apply ByteArray.ext
  apply Array.toList_inj.1
  rw [ByteArray.data_append, Array.toList_append, joined_list, joined_list, cats_snoc h]

theorem text_info : (Tryd.prog.info? 9).map (fun i => (i.zero, i.size, i.bytes)) = some (some (.string .empty), 1, 16) := by kernel_rfl
theorem texts_cells {w : World} {B b off : Nat} {xs : List ByteArray} (hc : ∀ (j : Nat) (x : ByteArray), xs[j]? = some x → w.cell? ⟨b, off + j, none⟩ = some (.string x)) (_hB : b < B) :
    ∀ (j : Nat) (u : Value), (xs.map Value.string)[j]? = some u → w.cell? ((⟨b, off, none⟩ : Addr).add j) = some u := by
  intro j u hu
  rw [List.getElem?_map] at hu
  obtain ⟨x, hx, rfl⟩ := Option.map_eq_some_iff.1 hu
  rw [Go.WideShapes.add_plain]
  exact hc j x hx

/-- A list lent: it lies in a block of its own, with a mark behind it that it has room for. -/
def Lent (w : World) (B g cap : Nat) (xs : List ByteArray) : Prop :=
  B ≤ g ∧ g < w.heap.size ∧ xs.length + 1 ≤ cap ∧ cap ≤ 9223372036854775807 ∧ ∀ (j : Nat) (x : ByteArray), (xs ++ [⟨#[109, 97, 114, 107]⟩])[j]? = some x → w.cell? ⟨g, j, none⟩ = some (.string x)
theorem Lent.below {w w' : World} {B g cap : Nat} {xs : List ByteArray} (h : Lent w B g cap xs) (hb : Below w.heap.size w w') : Lent w' B g cap xs := by
  obtain ⟨h0, h1, h2, h3, h4⟩ := h
  exact ⟨h0, Nat.lt_of_lt_of_le h1 hb.size, h2, h3, fun j x hx => (hb.cell (p := ⟨g, j, none⟩) h1).trans (h4 j x hx)⟩
theorem Lent.txts {w : World} {B g cap : Nat} {xs : List ByteArray} (h : Lent w B g cap xs) : Txts w w.heap.size (some ⟨g, 0, none⟩) xs := by
  obtain ⟨h0, h1, h2, h3, h4⟩ := h
  intro _
  refine ⟨g, 0, rfl, h1, fun j x hx => ?_⟩
  rw [Nat.zero_add]
  have hj : j < xs.length := by
    rcases Nat.lt_or_ge j xs.length with h | h
    · exact h
    · rw [List.getElem?_eq_none h] at hx; cases hx
  exact h4 j x (by rw [List.getElem?_append_left hj]; exact hx)


end Go.Proofs.YtokddfbjjghpkaaDoor
