/-
  The reader of the document's chapter 1 as a plain function of what is left and of the error: no Go, no memory. No statement is proved here.
-/
import Derived.WalkKit
import Derived.Lib.Strings
namespace Go.Proofs.Ytkcjiogackkecaa

/-- What is left, and the error (0: none). -/
structure Rd where
  b : ByteArray
  e : Int

def Rd.fail (s : Rd) (c : Int) : Rd := if s.e = 0 then ⟨.empty, c⟩ else s
/-- n bytes, whether they were there, and the reader behind. -/
def Rd.take (s : Rd) (n : Int) : ByteArray × Bool × Rd :=
  if s.e ≠ 0 then (.empty, false, s)
  else if n < 0 then (.empty, false, ⟨.empty, 1⟩)
  else if (s.b.size : Int) < n then (.empty, false, ⟨.empty, 5⟩)
  else (s.b.extract 0 n.toNat, true, ⟨s.b.extract n.toNat s.b.size, 0⟩)
/-- The number of bytes, the lowest first. -/
def low : List UInt8 → Nat
  | [] => 0
  | x :: l => x.toNat + 256 * low l
def Rd.num (s : Rd) (k : Nat) : Int × Rd :=
  if (s.take k).2.1 = true then
    (if 9223372036854775807 < (low (s.take k).1.data.toList : Int) then (0, ⟨.empty, 6⟩) else ((low (s.take k).1.data.toList : Int), (s.take k).2.2))
  else (0, (s.take k).2.2)
def Rd.raw (s : Rd) (n : Int) : ByteArray × Rd := ((s.take n).1, (s.take n).2.2)
def Rd.text (s : Rd) : ByteArray × Rd := (s.num 2).2.raw (s.num 2).1
def Rd.rest (s : Rd) : Bool := (s.e == 0) && s.b.data.toList.all (· == 0)
def Rd.fin (s : Rd) : Int × Rd := if s.rest = true then (s.e, s) else ((s.fail 6).e, s.fail 6)
/-- Behind an error nothing is left. -/
def Rd.ok (s : Rd) : Prop := s.e ≠ 0 → s.b = .empty

theorem low_lt (l : List UInt8) : low l < 256 ^ l.length := by
  induction l with
  | nil => simp [low]
  | cons x l ih =>
    have := x.toNat_lt
    simp only [low, List.length_cons, Nat.pow_succ]
    omega
theorem low_snoc (l : List UInt8) (x : UInt8) : low (l ++ [x]) = low l + x.toNat * 256 ^ l.length := by
  induction l with
  | nil => simp [low]
  | cons y l ih =>
    simp only [List.cons_append, low, ih, List.length_cons, Nat.pow_succ]
    have : 256 * (x.toNat * 256 ^ l.length) = x.toNat * (256 ^ l.length * 256) := by
      rw [Nat.mul_comm 256, Nat.mul_assoc]
    omega
theorem Rd.ok_fail {s : Rd} (h : s.ok) (c : Int) : (s.fail c).ok := by
  unfold Rd.fail; split
  · intro _; rfl
  · exact h
theorem Rd.ok_take {s : Rd} (h : s.ok) (n : Int) : (s.take n).2.2.ok := by
  unfold Rd.take; split
  · exact h
  · split
    · intro _; rfl
    · split
      · intro _; rfl
      · intro h0; exact absurd rfl h0
theorem Rd.ok_num {s : Rd} (h : s.ok) (k : Nat) : (s.num k).2.ok := by
  unfold Rd.num; split
  · split
    · intro _; rfl
    · exact Rd.ok_take h _
  · exact Rd.ok_take h _
theorem Rd.ok_raw {s : Rd} (h : s.ok) (n : Int) : (s.raw n).2.ok := Rd.ok_take h n
theorem Rd.ok_text {s : Rd} (h : s.ok) : s.text.2.ok := Rd.ok_raw (Rd.ok_num h 2) _
theorem Rd.size_take (s : Rd) (n : Int) : (s.take n).2.2.b.size ≤ s.b.size ∧ (s.take n).1.size ≤ s.b.size := by
  unfold Rd.take; split
  · simp
  · split
    · simp
    · split
      · simp
      · simp
        omega
theorem Rd.size_num (s : Rd) (k : Nat) : (s.num k).2.b.size ≤ s.b.size := by
  unfold Rd.num; split
  · split
    · simp
    · exact (s.size_take k).1
  · exact (s.size_take k).1
theorem Rd.size_raw (s : Rd) (n : Int) : (s.raw n).2.b.size ≤ s.b.size := (s.size_take n).1
theorem Rd.size_text (s : Rd) : s.text.2.b.size ≤ s.b.size := Nat.le_trans (Rd.size_raw _ _) (Rd.size_num _ _)
theorem Rd.num_range (s : Rd) (k : Nat) : 0 ≤ (s.num k).1 ∧ (s.num k).1 ≤ 9223372036854775807 := by
  unfold Rd.num; split
  · split
    · simp
    · exact ⟨by simp, by simp; omega⟩
  · simp

theorem low_or (l : List UInt8) (x : UInt8) (j : Nat) (hl : l.length = j) (hj : j < 8) :
    bits .or .u64 (low l : Int) (IntKind.u64.wrap (IntKind.u64.wrap (x.toNat : Int) * 2 ^ (8 * j))) = (low (l ++ [x]) : Int) := by
  have h1 := low_lt l
  have h2 := x.toNat_lt
  rw [hl] at h1
  have hp : (256 : Nat) ^ j = 2 ^ (8 * j) := by rw [Nat.pow_mul]
  rw [low_snoc, hl, hp]
  rw [hp] at h1
  have h3 : x.toNat * 2 ^ (8 * j) < 18446744073709551616 := by
    have : x.toNat * 2 ^ (8 * j) < 2 ^ 8 * 2 ^ (8 * j) := Nat.mul_lt_mul_of_pos_right (by omega) (Nat.pow_pos (by omega))
    rw [← Nat.pow_add] at this
    exact Nat.lt_of_lt_of_le this (Nat.pow_le_pow_right (by omega) (show 8 + 8 * j ≤ 64 by omega))
  have h4 : low l < 18446744073709551616 := Nat.lt_of_lt_of_le h1 (Nat.pow_le_pow_right (by omega) (show 8 * j ≤ 64 by omega))
  have e1 : IntKind.u64.wrap (x.toNat : Int) = (x.toNat : Int) := IntWalk.u64_in _ (by omega)
  have e2 : ((x.toNat : Int) * 2 ^ (8 * j)) = ((x.toNat * 2 ^ (8 * j) : Nat) : Int) := by simp
  rw [e1, e2, IntWalk.u64_in _ (by omega), u64_or_nat _ _ h4 h3, Nat.or_comm, nat_join (8 * j) _ _ (Nat.mul_mod_left _ _) h1]
  congr 1
  omega
theorem Rd.take_yes {s : Rd} {n : Int} (h : (s.take n).2.1 = true) : s.e = 0 ∧ 0 ≤ n ∧ n ≤ (s.b.size : Int) ∧ (s.take n).1 = s.b.extract 0 n.toNat ∧ (s.take n).2.2 = ⟨s.b.extract n.toNat s.b.size, 0⟩ := by
  unfold Rd.take at h ⊢
  split at h
  · cases h
  · rename_i h0
    split at h
    · cases h
    · rename_i h1
      split at h
      · cases h
      · rename_i h2
        simp only [h0, h1, h2, if_false]
        refine ⟨by simpa using h0, by omega, by omega, ?_, ?_⟩ <;> simp
theorem Rd.take_size {s : Rd} {k : Nat} (h : (s.take k).2.1 = true) : (s.take k).1.size = k := by
  obtain ⟨_, _, h2, h3, _⟩ := Rd.take_yes h
  rw [h3]
  simp
  omega
end Go.Proofs.Ytkcjiogackkecaa
