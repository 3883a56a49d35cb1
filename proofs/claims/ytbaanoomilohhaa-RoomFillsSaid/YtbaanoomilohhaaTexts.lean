/-
  The writer's texts and bytes.
-/
import Derived.Test.YtbaanoomilohhaaOut
import Derived.Test.YtbaanoomilohhaaTxts
namespace Go.Proofs.Ytbaanoomilohhaa
open Go.RowKit

/-- All texts with their lengths, of all texts bytes alone. -/
def textsBytes (l : List ByteArray) : List UInt8 := l.flatMap textBytes
theorem textsBytes_snoc {l : List ByteArray} {j : Nat} {x : ByteArray} (h : l[j]? = some x) : textsBytes (l.take (j + 1)) = textsBytes (l.take j) ++ textBytes x := by
  rw [List.take_add_one, h]; simp [textsBytes]
theorem textsBytes_len {l : List ByteArray} {j : Nat} {x : ByteArray} (h : l[j]? = some x) : (textsBytes (l.take j)).length + 2 + x.size ≤ (textsBytes l).length := by
  have e : textsBytes l = textsBytes (l.take (j + 1)) ++ textsBytes (l.drop (j + 1)) := by unfold textsBytes; rw [← List.flatMap_append, List.take_append_drop]
  rw [e, textsBytes_snoc h, List.length_append, List.length_append, textBytes, List.length_append, lowBytes_length, Lib.size_eq]
  omega
theorem allShort_snoc {l : List ByteArray} {j : Nat} {x : ByteArray} (h : l[j]? = some x) (h1 : allShort (l.take j) = true) (h2 : x.size ≤ 65535) : allShort (l.take (j + 1)) = true := by
  rw [List.take_add_one, h]
  unfold allShort at h1 ⊢
  simp [h2]
  simpa using h1
theorem allShort_no {l : List ByteArray} {x : ByteArray} (h : x ∈ l) (hx : 65535 < x.size) : allShort l = false := by
  unfold allShort
  rw [List.all_eq_false]
  exact ⟨x, h, by simp; omega⟩
/-- What three writes into a builder leave, as the bytes of one text. -/
theorem text_cells (l : List UInt8) (x : ByteArray) (h : x.size ≤ 65535) :
    Lib.byteCells l ++ [Value.int .u8 ((x.size : Int) % 256)] ++ [Value.int .u8 ((x.size : Int) / 256)] ++ Lib.strCells x = Lib.byteCells (l ++ textBytes x) := by
  have e : (x.size : Int) / 256 = ((x.size / 256 % 256 : Nat) : Int) := by omega
  rw [e]
  simp [Lib.byteCells, Lib.strCells, textBytes, lowBytes, Nat.toUInt8]

end Go.Proofs.Ytbaanoomilohhaa
