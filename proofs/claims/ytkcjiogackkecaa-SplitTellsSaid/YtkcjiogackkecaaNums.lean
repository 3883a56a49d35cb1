/-
  The writer's numbers, in so many bytes each.
-/
import Derived.Test.YtkcjiogackkecaaBytes
import Derived.Test.YtkcjiogackkecaaOut
import Derived.Deep.AppendLies
import Derived.Maps.AppendAt
namespace Go.Proofs.Ytkcjiogackkecaa
open Go.RowKit

/-- A list of numbers as a slice: nil, empty or not. -/
def Ints (w : World) (B : Nat) (A : Option Addr) (xs : List Int) : Prop :=
  0 < xs.length → ∃ b off, A = some ⟨b, off, none⟩ ∧ b < B ∧ ∀ (j : Nat) (x : Int), xs[j]? = some x → w.cell? ⟨b, off + j, none⟩ = some (.int .i64 x)
theorem Ints.nil (w : World) (B : Nat) (A : Option Addr) : Ints w B A [] := fun h => absurd h (by simp)
theorem Ints.more {w : World} {B B' : Nat} {A : Option Addr} {xs : List Int} (h : Ints w B A xs) (hB : B ≤ B') : Ints w B' A xs := fun hp => by
  obtain ⟨b, off, e, hb, hc⟩ := h hp
  exact ⟨b, off, e, by omega, hc⟩
theorem Ints.keep {w w' : World} {B : Nat} {A : Option Addr} {xs : List Int} (h : Ints w B A xs) (hk : ∀ p : Addr, p.block < B → w'.cell? p = w.cell? p) : Ints w' B A xs := by
  intro hp
  obtain ⟨b, off, e, hb, hc⟩ := h hp
  exact ⟨b, off, e, hb, fun j x hx => (hk _ hb).trans (hc j x hx)⟩
theorem Ints.below {w w' : World} {B : Nat} {A : Option Addr} {xs : List Int} (h : Ints w B A xs) (hb : Below B w w') : Ints w' B A xs := h.keep fun _ hp => hb.cell hp

theorem next_cells (l : List UInt8) (x : Int) (t : Nat) (h : 0 ≤ x) : Lib.byteCells (l ++ lowBytes t x.toNat) ++ [Value.int .u8 (x / 2 ^ (8 * t) % 256)] = Lib.byteCells (l ++ lowBytes (t + 1) x.toNat) := by
  rw [pow_bytes x t h, lowBytes_snoc]
  simp [Lib.byteCells, Nat.toUInt8]

end Go.Proofs.Ytkcjiogackkecaa
