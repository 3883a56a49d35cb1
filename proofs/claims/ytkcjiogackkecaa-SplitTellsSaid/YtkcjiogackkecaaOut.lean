/-
  The writer of package bits: how it lies in memory, and its two inner calls: what each leaves.
-/
import Derived.Test.YtkcjiogackkecaaPure
import Derived.Test.YtkcjiogackkecaaProg
import Derived.Test.YtkcjiogackkecaaWords
import Derived.Test.YtkcjiogackkecaaShelf
import Derived.BigQuiet
import Derived.Deep.QuietTactic
import Derived.Outline
namespace Go.Proofs.Ytkcjiogackkecaa

/-- What was laid, and the error (0: none). -/
structure Wr where
  l : List UInt8
  e : Int
def Wr.lay (s : Wr) (b : List UInt8) : Wr := if s.e = 0 then ⟨s.l ++ b, 0⟩ else s
def Wr.fail (s : Wr) (c : Int) : Wr := if s.e = 0 then ⟨[], c⟩ else s

/-- The k lowest bytes of a number, the lowest first. -/
def lowBytes : Nat → Nat → List UInt8
  | 0, _ => []
  | k + 1, n => n.toUInt8 :: lowBytes k (n / 256)
/-- May n stand in k bytes? -/
def fits (k : Nat) (n : Int) : Bool := decide (0 ≤ n) && (n.toNat / 256 ^ k == 0)
def allFit (k : Nat) (l : List Int) : Bool := l.all (fits k)
def allBytes (k : Nat) (l : List Int) : List UInt8 := l.flatMap fun n => lowBytes k n.toNat
def Wr.nums (s : Wr) (k : Nat) (l : List Int) : Wr := if allFit k l = true then s.lay (allBytes k l) else s.fail 1

/-- A text, its length ahead. -/
def textBytes (t : ByteArray) : List UInt8 := lowBytes 2 t.size ++ t.data.toList
def allShort (l : List ByteArray) : Bool := l.all fun t => decide (t.size ≤ 65535)
def Wr.texts (s : Wr) (l : List ByteArray) : Wr := if allShort l = true then s.lay (l.flatMap textBytes) else s.fail 2
def Wr.raws (s : Wr) (l : List ByteArray) : Wr := s.lay (l.flatMap fun t => t.data.toList)
def Wr.pad (s : Wr) (n : Int) : Wr :=
  if n < 0 ∨ 65536 < n then s.fail 1
  else if n < (s.l.length : Int) then s.fail 2
  else s.lay (List.replicate (n.toNat - s.l.length) 0)
/-- Behind an error nothing is laid. -/
def Wr.ok (s : Wr) : Prop := s.e ≠ 0 → s.l = []

theorem lowBytes_length (k n : Nat) : (lowBytes k n).length = k := by
  induction k generalizing n with
  | zero => rfl
  | succ k ih => simp [lowBytes, ih]
theorem low_lowBytes (k n : Nat) : low (lowBytes k n) = n % 256 ^ k := by
  induction k generalizing n with
  | zero => simp [lowBytes, low, Nat.mod_one]
  | succ k ih =>
    have h : (n.toUInt8).toNat = n % 256 := by simp [Nat.toUInt8]
    simp only [lowBytes, low, ih, h, Nat.pow_succ]
    rw [Nat.mul_comm (256 ^ k) 256, Nat.mod_mul]
theorem lowBytes_snoc (k n : Nat) : lowBytes (k + 1) n = lowBytes k n ++ [(n / 256 ^ k).toUInt8] := by
  induction k generalizing n with
  | zero => simp [lowBytes]
  | succ k ih =>
    rw [lowBytes, ih, lowBytes, Nat.div_div_eq_div_mul, Nat.pow_succ, Nat.mul_comm 256]
    rfl
theorem allBytes_length (k : Nat) (l : List Int) : (allBytes k l).length = l.length * k := by
  unfold allBytes
  induction l with
  | nil => simp
  | cons x l ih => simp only [List.flatMap_cons, List.length_append, ih, lowBytes_length, List.length_cons, Nat.add_mul]; omega
theorem allBytes_snoc (k : Nat) (l : List Int) (x : Int) : allBytes k (l ++ [x]) = allBytes k l ++ lowBytes k x.toNat := by simp [allBytes]
theorem fits_eight (n : Int) (h0 : 0 ≤ n) (h1 : n ≤ 9223372036854775807) : fits 8 n = true := by
  unfold fits
  simp
  exact ⟨h0, by omega⟩
theorem fits_iff (k : Nat) (n : Int) : fits k n = true ↔ 0 ≤ n ∧ n < 256 ^ k := by
  unfold fits
  simp
  intro h
  have : 0 < 256 ^ k := Nat.pow_pos (by omega)
  have e : ((256 ^ k : Nat) : Int) = 256 ^ k := by simp
  omega
theorem pow_bytes (x : Int) (k : Nat) (h : 0 ≤ x) : x / 2 ^ (8 * k) = ((x.toNat / 256 ^ k : Nat) : Int) := by
  obtain ⟨n, rfl⟩ := Int.eq_ofNat_of_zero_le h
  have e : (256 : Nat) ^ k = 2 ^ (8 * k) := by rw [Nat.pow_mul]
  rw [Int.toNat_natCast, e]
  simp
theorem shr_fits (x : Int) (k : Nat) (h : 0 ≤ x) : (x / 2 ^ (8 * k) != 0) = !fits k x := by
  rw [pow_bytes x k h]
  unfold fits
  generalize x.toNat / 256 ^ k = y
  rw [decide_eq_true h, Bool.true_and]
  rw [Bool.eq_iff_iff]
  cases y with
  | zero => simp
  | succ y => simp; omega
theorem allFit_snoc (k : Nat) (l : List Int) (x : Int) : allFit k (l ++ [x]) = (allFit k l && fits k x) := by simp [allFit]
theorem allFit_no {k : Nat} {l : List Int} {x : Int} (h : x ∈ l) (hx : fits k x = false) : allFit k l = false := by
  unfold allFit
  rw [List.all_eq_false]
  exact ⟨x, h, by simp [hx]⟩
theorem Wr.ok_lay {s : Wr} (h : s.ok) (b : List UInt8) : (s.lay b).ok := by
  unfold Wr.lay; split
  · intro h0; exact absurd rfl h0
  · exact h
theorem Wr.ok_fail {s : Wr} (h : s.ok) (c : Int) : (s.fail c).ok := by
  unfold Wr.fail; split
  · intro _; rfl
  · exact h
theorem Wr.ok_nums {s : Wr} (h : s.ok) (k : Nat) (l : List Int) : (s.nums k l).ok := by
  unfold Wr.nums; split
  · exact Wr.ok_lay h _
  · exact Wr.ok_fail h _
theorem Wr.ok_texts {s : Wr} (h : s.ok) (l : List ByteArray) : (s.texts l).ok := by
  unfold Wr.texts; split
  · exact Wr.ok_lay h _
  · exact Wr.ok_fail h _
theorem Wr.ok_raws {s : Wr} (h : s.ok) (l : List ByteArray) : (s.raws l).ok := Wr.ok_lay h _
theorem Wr.ok_pad {s : Wr} (h : s.ok) (n : Int) : (s.pad n).ok := by
  unfold Wr.pad; split
  · exact Wr.ok_fail h _
  · split
    · exact Wr.ok_fail h _
    · exact Wr.ok_lay h _
theorem Wr.len_lay (s : Wr) (b : List UInt8) : (s.lay b).l.length ≤ s.l.length + b.length := by
  unfold Wr.lay; split <;> simp
theorem Wr.len_fail (s : Wr) (c : Int) : (s.fail c).l.length ≤ s.l.length := by
  unfold Wr.fail; split <;> simp
theorem Wr.len_nums (s : Wr) (k : Nat) (l : List Int) : (s.nums k l).l.length ≤ s.l.length + l.length * k := by
  unfold Wr.nums; split
  · have := s.len_lay (allBytes k l); rw [allBytes_length] at this; exact this
  · have := s.len_fail 1; omega
end Go.Proofs.Ytkcjiogackkecaa

namespace Go.Proofs.Ytkcjiogackkecaa
open Go.RowKit

def cat : List (Nat × ByteArray) → List UInt8
  | [] => []
  | (_, s) :: r => cat r ++ s.data.toList
end Go.Proofs.Ytkcjiogackkecaa
