/-
  The document's chapter 2 as plain functions of bytes: the check sum, what is sealed, what is opened; that one changed byte changes the sum. No Go, no memory. No statement is proved here.
-/
import Derived.Test.YtbaanoomilohhaaGreatDoorOutPure
import Derived.Laws.BitsAllLaws
namespace Go.Proofs.YtbaanoomilohhaaGreatDoor

/-- One bit is shifted out. -/
def shift1 (x : Nat) : Nat := if x % 2 = 1 then (x / 2) ^^^ 3988292384 else x / 2
def shifts : Nat → Nat → Nat
  | 0, x => x
  | k + 1, x => shift1 (shifts k x)
/-- One byte is taken in. -/
def crcByte (x : Nat) (b : UInt8) : Nat := shifts 8 (x ^^^ b.toNat)
def crcFold (x : Nat) (l : List UInt8) : Nat := l.foldl crcByte x
/-- The check sum of all bytes. -/
def crc (l : List UInt8) : Nat := crcFold 4294967295 l ^^^ 4294967295

theorem cxor_lt {a b : Nat} (ha : a < 4294967296) (hb : b < 4294967296) : a ^^^ b < 4294967296 := Nat.xor_lt_two_pow (n := 32) ha hb
theorem shift1_lt {x : Nat} (h : x < 4294967296) : shift1 x < 4294967296 := by
  unfold shift1
  split
  · exact cxor_lt (by omega) (by omega)
  · omega
theorem shifts_lt (k : Nat) {x : Nat} (h : x < 4294967296) : shifts k x < 4294967296 := by
  induction k with
  | zero => exact h
  | succ k ih => exact shift1_lt ih
theorem byte_xor_lt {x : Nat} (b : UInt8) (h : x < 4294967296) : x ^^^ b.toNat < 4294967296 := cxor_lt h (by have := b.toNat_lt; omega)
theorem crcByte_lt {x : Nat} (b : UInt8) (h : x < 4294967296) : crcByte x b < 4294967296 := shifts_lt 8 (byte_xor_lt b h)
theorem crcFold_lt (l : List UInt8) : ∀ {x : Nat}, x < 4294967296 → crcFold x l < 4294967296 := by
  induction l with
  | nil => intro x h; exact h
  | cons b l ih => intro x h; exact ih (crcByte_lt b h)
theorem crc_lt (l : List UInt8) : crc l < 4294967296 := cxor_lt (crcFold_lt l (by omega)) (by omega)
theorem crcFold_append (x : Nat) (l m : List UInt8) : crcFold x (l ++ m) = crcFold (crcFold x l) m := List.foldl_append
theorem crcFold_snoc (x : Nat) (l : List UInt8) (b : UInt8) : crcFold x (l ++ [b]) = crcByte (crcFold x l) b := by rw [crcFold_append]; rfl

theorem xor_right {a b c : Nat} (h : a ^^^ c = b ^^^ c) : a = b := by
  have := congrArg (· ^^^ c) h
  simpa [Nat.xor_assoc] using this
theorem xor_left {a b c : Nat} (h : c ^^^ a = c ^^^ b) : a = b := xor_right (c := c) (by rw [Nat.xor_comm a, Nat.xor_comm b]; exact h)
theorem half_top {x : Nat} (h : x < 4294967296) : (x / 2).testBit 31 = false := Nat.testBit_lt_two_pow (show x / 2 < 2 ^ 31 by omega)
theorem poly_top : Nat.testBit 3988292384 31 = true := by decide +kernel
theorem shift1_inj {x y : Nat} (hx : x < 4294967296) (hy : y < 4294967296) (h : shift1 x = shift1 y) : x = y := by
  unfold shift1 at h
  split at h <;> split at h
  · have := xor_right h; omega
  · have h2 := congrArg (fun n => Nat.testBit n 31) h
    simp only [Nat.testBit_xor, half_top hx, half_top hy, poly_top] at h2
    cases h2
  · have h2 := congrArg (fun n => Nat.testBit n 31) h
    simp only [Nat.testBit_xor, half_top hx, half_top hy, poly_top] at h2
    cases h2
  · omega
theorem shifts_inj (k : Nat) {x y : Nat} (hx : x < 4294967296) (hy : y < 4294967296) (h : shifts k x = shifts k y) : x = y := by
  induction k with
  | zero => exact h
  | succ k ih => exact ih (shift1_inj (shifts_lt k hx) (shifts_lt k hy) h)
theorem crcByte_inj {x y : Nat} (b : UInt8) (hx : x < 4294967296) (hy : y < 4294967296) (h : crcByte x b = crcByte y b) : x = y :=
  xor_right (shifts_inj 8 (byte_xor_lt b hx) (byte_xor_lt b hy) h)
theorem crcByte_other {x : Nat} {b c : UInt8} (hx : x < 4294967296) (h : crcByte x b = crcByte x c) : b = c :=
  UInt8.toNat_inj.1 (xor_left (shifts_inj 8 (byte_xor_lt b hx) (byte_xor_lt c hx) h))
theorem crcFold_inj (l : List UInt8) : ∀ {x y : Nat}, x < 4294967296 → y < 4294967296 → crcFold x l = crcFold y l → x = y := by
  induction l with
  | nil => intro x y _ _ h; exact h
  | cons b l ih => intro x y hx hy h; exact crcByte_inj b hx hy (ih (crcByte_lt b hx) (crcByte_lt b hy) h)
/-- One byte changed: another sum. -/
theorem crc_set {l : List UInt8} {j : Nat} {b : UInt8} (hj : j < l.length) (hb : l[j] ≠ b) : crc (l.set j b) ≠ crc l := by
  intro h
  have h1 : crcFold 4294967295 (l.set j b) = crcFold 4294967295 l := xor_right h
  have e1 : l = l.take j ++ l[j] :: l.drop (j + 1) := by rw [← List.drop_eq_getElem_cons hj, List.take_append_drop]
  have e2 : l.set j b = l.take j ++ b :: l.drop (j + 1) := List.set_eq_take_append_cons_drop.trans (if_pos hj)
  rw [e2] at h1
  have h2 : crcFold 4294967295 (l.take j ++ b :: l.drop (j + 1)) = crcFold 4294967295 (l.take j ++ l[j] :: l.drop (j + 1)) := by rw [← e1]; exact h1
  rw [crcFold_append, crcFold_append] at h2
  have hp : crcFold 4294967295 (l.take j) < 4294967296 := crcFold_lt _ (by omega)
  have h3 : crcByte (crcFold 4294967295 (l.take j)) b = crcByte (crcFold 4294967295 (l.take j)) l[j] :=
    crcFold_inj (l.drop (j + 1)) (crcByte_lt _ hp) (crcByte_lt _ hp) h2
  exact hb (crcByte_other hp h3).symm

theorem lowBytes_low (l : List UInt8) : lowBytes l.length (low l) = l := by
  induction l with
  | nil => rfl
  | cons x l ih =>
    have hx := x.toNat_lt
    simp only [List.length_cons, lowBytes, low]
    have e1 : (x.toNat + 256 * low l) / 256 = low l := by omega
    have e2 : (x.toNat + 256 * low l).toUInt8 = x := by
      apply UInt8.toNat_inj.1
      simp [Nat.toUInt8]
    rw [e1, e2, ih]
theorem low_four {n : Nat} (h : n < 4294967296) : low (lowBytes 4 n) = n := by
  rw [low_lowBytes]
  exact Nat.mod_eq_of_lt h

/-- What stands ahead of the sum: all bytes, then zero bytes. -/
def body (n : Int) (l : List UInt8) : List UInt8 := l ++ List.replicate ((n - 4).toNat - l.length) 0
def sealB (n : Int) (l : List UInt8) : List UInt8 × Int :=
  if n < 4 ∨ 65536 < n then ([], 1)
  else if n - 4 < (l.length : Int) then ([], 2)
  else (body n l ++ lowBytes 4 (crc (body n l)), 0)
/-- What is told to stand ahead of the sum, and the error. -/
def openB (l : List UInt8) : List UInt8 × Int :=
  if l.length < 4 then ([], 5)
  else if low (l.drop (l.length - 4)) = crc (l.take (l.length - 4)) then (l.take (l.length - 4), 0)
  else ([], 7)
theorem sealB_arg {n : Int} {l : List UInt8} (h : n < 4 ∨ 65536 < n) : sealB n l = ([], 1) := by unfold sealB; rw [if_pos h]
theorem sealB_long {n : Int} {l : List UInt8} (h0 : 4 ≤ n) (h1 : n ≤ 65536) (h : n - 4 < (l.length : Int)) : sealB n l = ([], 2) := by
  unfold sealB; rw [if_neg (by omega), if_pos h]
theorem sealB_ok {n : Int} {l : List UInt8} (h0 : 4 ≤ n) (h1 : n ≤ 65536) (h : (l.length : Int) ≤ n - 4) : sealB n l = (body n l ++ lowBytes 4 (crc (body n l)), 0) := by
  unfold sealB; rw [if_neg (by omega), if_neg (by omega)]
theorem body_length {n : Int} {l : List UInt8} (h : (l.length : Int) ≤ n - 4) : ((body n l).length : Int) = n - 4 := by
  unfold body
  rw [List.length_append, List.length_replicate]
  omega
/-- What was sealed is opened. -/
theorem openB_back (b : List UInt8) : openB (b ++ lowBytes 4 (crc b)) = (b, 0) := by
  have hl : (b ++ lowBytes 4 (crc b)).length - 4 = b.length := by rw [List.length_append, lowBytes_length]; omega
  unfold openB
  rw [if_neg (by rw [List.length_append, lowBytes_length]; omega), hl, List.drop_left, List.take_left, low_four (crc_lt b), if_pos rfl]
/-- With one byte changed it is refused. -/
theorem openB_set (b : List UInt8) {j : Nat} {c : UInt8} (hj : j < (b ++ lowBytes 4 (crc b)).length) (hc : (b ++ lowBytes 4 (crc b))[j] ≠ c) :
    openB ((b ++ lowBytes 4 (crc b)).set j c) = ([], 7) := by
  have hl4 : (lowBytes 4 (crc b)).length = 4 := lowBytes_length _ _
  have hl : (b ++ lowBytes 4 (crc b)).length = b.length + 4 := by rw [List.length_append, hl4]
  unfold openB
  rw [List.length_set, hl, if_neg (by omega), Nat.add_sub_cancel, if_neg]
  by_cases h : j < b.length
  · have e : (b ++ lowBytes 4 (crc b)).set j c = b.set j c ++ lowBytes 4 (crc b) := by rw [List.set_append, if_pos h]
    have hbl : (b.set j c).length = b.length := List.length_set
    have ed : (b.set j c ++ lowBytes 4 (crc b)).drop b.length = lowBytes 4 (crc b) := by rw [← hbl]; exact List.drop_left
    have et : (b.set j c ++ lowBytes 4 (crc b)).take b.length = b.set j c := by rw [← hbl]; exact List.take_left
    rw [e, ed, et, low_four (crc_lt b)]
    intro h2
    refine crc_set h ?_ h2.symm
    intro h3
    apply hc
    rw [List.getElem_append_left h]
    exact h3
  · have e : (b ++ lowBytes 4 (crc b)).set j c = b ++ (lowBytes 4 (crc b)).set (j - b.length) c := by rw [List.set_append, if_neg h]
    rw [e, List.drop_left, List.take_left]
    intro h2
    have h3 : (lowBytes 4 (crc b)).set (j - b.length) c = lowBytes 4 (crc b) := by
      have := lowBytes_low ((lowBytes 4 (crc b)).set (j - b.length) c)
      rw [List.length_set, hl4, h2] at this
      exact this.symm
    apply hc
    have hj2 : j - b.length < (lowBytes 4 (crc b)).length := by omega
    have h4 : ((lowBytes 4 (crc b)).set (j - b.length) c)[j - b.length]? = some c := by rw [List.getElem?_set_self hj2]
    rw [h3, List.getElem?_eq_getElem hj2] at h4
    rw [List.getElem_append_right (by omega)]
    exact Option.some.inj h4
end Go.Proofs.YtbaanoomilohhaaGreatDoor
