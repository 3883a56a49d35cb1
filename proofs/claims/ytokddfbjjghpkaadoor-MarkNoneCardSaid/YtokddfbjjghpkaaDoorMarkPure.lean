/-
  Fingerprints as plain values: a kind and its bytes; how long, how they are held against each other. No statement is proved here.
-/
import Derived.Test.YtokddfbjjghpkaaDoorOutPure
import Derived.Lib.Bytealg
import Derived.Lib.Small
namespace Go.Proofs.YtokddfbjjghpkaaDoor

/-- How many bytes a print of a kind has. -/
def sizeK (kind : Int) : Int := if kind = 1 then 20 else if kind = 2 then 32 else 0
/-- A print as a value. -/
def printV (kind : Int) (s : ByteArray) : Value := .agg #[.int .i64 kind, .string s]
def validK (kind : Int) (s : ByteArray) : Bool := decide (0 < sizeK kind) && decide ((s.size : Int) = sizeK kind)
/-- The number of the first two bytes. -/
def hashK (s : ByteArray) : Int := if s.size < 2 then 0 else ((s.data.toList.getD 0 0).toNat : Int) + 256 * ((s.data.toList.getD 1 0).toNat : Int)
/-- How two prints stand to each other. -/
def cmpK (k : Int) (s : ByteArray) (l : Int) (t : ByteArray) : Int := if Lib.compareInt k l ≠ 0 then Lib.compareInt k l else Lib.compareBytes s.data.toList t.data.toList

theorem sizeK_one : sizeK 1 = 20 := rfl
theorem sizeK_two : sizeK 2 = 32 := rfl
theorem sizeK_other {k : Int} (h1 : k ≠ 1) (h2 : k ≠ 2) : sizeK k = 0 := by unfold sizeK; rw [if_neg h1, if_neg h2]
theorem sizeK_range (k : Int) : 0 ≤ sizeK k ∧ sizeK k ≤ 32 := by unfold sizeK; split <;> (try split) <;> omega
theorem hashK_low {s : ByteArray} (h : 2 ≤ s.size) : hashK s = (low (s.data.toList.take 2) : Int) := by
  unfold hashK
  rw [if_neg (by omega)]
  obtain ⟨⟨l⟩⟩ := s
  have h' : 2 ≤ l.length := h
  match l, h' with
  | a :: b :: r, _ => simp [low]
theorem hashK_range (s : ByteArray) : 0 ≤ hashK s ∧ hashK s < 65536 := by
  unfold hashK
  split
  · omega
  · have h0 := (s.data.toList.getD 0 0).toNat_lt
    have h1 := (s.data.toList.getD 1 0).toNat_lt
    omega
end Go.Proofs.YtokddfbjjghpkaaDoor
