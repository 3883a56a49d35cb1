/-
  The number that rolls over bytes, as a plain function of numbers. No statement is proved here.
-/
import Derived.Test.YtkcjiogackkecaaProg
import Derived.Laws.Bits64
import Derived.Laws.BitsAllLaws
import Derived.WalkKit
namespace Go.Proofs.Ytkcjiogackkecaa
open Go.RowKit

/-- One step of the mixing: x and x shifted right, times a number. -/
def gmix (s c x : Nat) : Nat := (x ^^^ x / s) * c % 18446744073709551616
/-- A byte's number. -/
def gval (b : Nat) : Nat :=
  let x := gmix 134217728 10723151780598845931 (gmix 1073741824 13787848793156543929 ((b + 1) * 11400714819323198485 % 18446744073709551616))
  x ^^^ x / 2147483648
/-- The number that rolls over bytes. -/
def gstep (h : Nat) (b : UInt8) : Nat := (h * 2 + gval b.toNat) % 18446744073709551616
def groll (h : Nat) (l : List UInt8) : Nat := l.foldl gstep h

theorem gmix_lt (s c x : Nat) : gmix s c x < 18446744073709551616 := Nat.mod_lt _ (by decide)
theorem gshift_lt (x s : Nat) (h : x < 18446744073709551616) : x ^^^ x / s < 18446744073709551616 := by
  have hx : x ^^^ x / s < 2 ^ 64 := Nat.xor_lt_two_pow (by omega) (Nat.lt_of_le_of_lt (Nat.div_le_self _ _) (by omega))
  omega
theorem gval_lt (b : Nat) : gval b < 18446744073709551616 := gshift_lt _ _ (gmix_lt _ _ _)
theorem groll_nil (h : Nat) : groll h [] = h := rfl
theorem groll_append (h : Nat) (a b : List UInt8) : groll h (a ++ b) = groll (groll h a) b := List.foldl_append
theorem groll_cons (h : Nat) (b : UInt8) (l : List UInt8) : groll h (b :: l) = groll (gstep h b) l := List.foldl_cons ..
theorem groll_one (h : Nat) (b : UInt8) : groll h [b] = gstep h b := by rw [groll_cons, groll_nil]
theorem groll_snoc (h : Nat) (a : List UInt8) (b : UInt8) : groll h (a ++ [b]) = gstep (groll h a) b := by rw [groll_append, groll_one]
theorem gstep_eq (h : Nat) (b : UInt8) : gstep h b = (h * 2 + gval b.toNat) % 18446744073709551616 := by unfold gstep; rfl
theorem gstep_lt (h : Nat) (b : UInt8) : gstep h b < 18446744073709551616 := by unfold gstep; exact Nat.mod_lt _ (by decide)
theorem groll_lt {h : Nat} (l : List UInt8) (hh : h < 18446744073709551616) : groll h l < 18446744073709551616 := by
  rcases List.eq_nil_or_concat l with rfl | ⟨a, b, rfl⟩
  · exact hh
  · rw [List.concat_eq_append, groll_snoc]; exact gstep_lt _ _
theorem groll_next {l : List UInt8} {k : Nat} {b : UInt8} (h : Nat) (hb : l[k]? = some b) : groll h (l.take (k + 1)) = gstep (groll h (l.take k)) b := by
  rw [List.take_add_one, hb]; exact groll_snoc _ _ _
/-- What was rolled over ahead counts for its shifted number alone. -/
theorem groll_sum (N : Nat) (hN : N = 18446744073709551616) (l : List UInt8) : ∀ h, groll h l % N = (h * 2 ^ l.length + groll 0 l) % N := by
  induction l with
  | nil => intro h; simp [groll]
  | cons b r ih =>
    intro h
    have key : ∀ g, groll g (b :: r) % N = (g * 2 ^ (r.length + 1) + (gval b.toNat * 2 ^ r.length + groll 0 r)) % N := by
      intro g
      rw [groll_cons, ih, gstep_eq, ← hN, Nat.add_mod, Nat.mul_mod, Nat.mod_mod, ← Nat.mul_mod, ← Nat.add_mod, Nat.add_mul, Nat.mul_assoc, ← Nat.pow_succ', Nat.add_assoc]
    rw [key h, List.length_cons, Nat.add_mod (h * 2 ^ (r.length + 1)) (groll 0 (b :: r)), key 0, ← Nat.add_mod, Nat.zero_mul, Nat.zero_add]
/-- Behind 64 bytes nothing of it counts. -/
theorem groll_forgets (l : List UInt8) (h g : Nat) (hl : 64 ≤ l.length) (hh : h < 18446744073709551616) (hg : g < 18446744073709551616) : groll h l = groll g l := by
  obtain ⟨N, hN⟩ : ∃ N, N = 18446744073709551616 := ⟨_, rfl⟩
  have hp : (2 : Nat) ^ 64 = N := by rw [hN]
  have e : ∀ x, x < 18446744073709551616 → groll x l = groll 0 l % N := by
    intro x hx
    have hlt := groll_lt l hx
    rw [← hN] at hlt
    rw [← Nat.mod_eq_of_lt hlt, groll_sum N hN l x]
    obtain ⟨k, hk⟩ : ∃ k, l.length = 64 + k := ⟨l.length - 64, by omega⟩
    rw [hk, Nat.pow_add, hp, Nat.mul_left_comm, Nat.mul_add_mod]
  rw [e h hh, e g hg]
end Go.Proofs.Ytkcjiogackkecaa
