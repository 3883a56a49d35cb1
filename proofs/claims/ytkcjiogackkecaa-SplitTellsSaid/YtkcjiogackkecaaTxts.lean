/-
  Lists of texts: how they lie, and their bytes one behind the other. No statement is proved here.
-/
import Derived.Test.YtkcjiogackkecaaProg
import Derived.Test.YtkcjiogackkecaaWords
import Derived.Lib.Strings
namespace Go.Proofs.Ytkcjiogackkecaa
open Go.RowKit

/-- A list of texts as a slice: nil, empty or not. -/
def Txts (w : World) (B : Nat) (A : Option Addr) (xs : List ByteArray) : Prop :=
  0 < xs.length → ∃ b off, A = some ⟨b, off, none⟩ ∧ b < B ∧ ∀ (j : Nat) (x : ByteArray), xs[j]? = some x → w.cell? ⟨b, off + j, none⟩ = some (.string x)
theorem Txts.nil (w : World) (B : Nat) (A : Option Addr) : Txts w B A [] := fun h => absurd h (by simp)
theorem Txts.more {w : World} {B B' : Nat} {A : Option Addr} {xs : List ByteArray} (h : Txts w B A xs) (hB : B ≤ B') : Txts w B' A xs := fun hp => by
  obtain ⟨b, off, e, hb, hc⟩ := h hp
  exact ⟨b, off, e, by omega, hc⟩
theorem Txts.keep {w w' : World} {B : Nat} {A : Option Addr} {xs : List ByteArray} (h : Txts w B A xs) (hk : ∀ p : Addr, p.block < B → w'.cell? p = w.cell? p) : Txts w' B A xs := by
  intro hp
  obtain ⟨b, off, e, hb, hc⟩ := h hp
  exact ⟨b, off, e, hb, fun j x hx => (hk _ hb).trans (hc j x hx)⟩
theorem Txts.below {w w' : World} {B : Nat} {A : Option Addr} {xs : List ByteArray} (h : Txts w B A xs) (hb : Below B w w') : Txts w' B A xs := h.keep fun _ hp => hb.cell hp

def cats (l : List ByteArray) : List UInt8 := l.flatMap fun t => t.data.toList
theorem cats_snoc {l : List ByteArray} {j : Nat} {x : ByteArray} (h : l[j]? = some x) : cats (l.take (j + 1)) = cats (l.take j) ++ x.data.toList := by
  rw [List.take_add_one, h]; simp [cats]
theorem cats_len {l : List ByteArray} {j : Nat} {x : ByteArray} (h : l[j]? = some x) : (cats (l.take j)).length + x.size ≤ (cats l).length := by
  have e : cats l = cats (l.take (j + 1)) ++ cats (l.drop (j + 1)) := by unfold cats; rw [← List.flatMap_append, List.take_append_drop]
  rw [e, cats_snoc h, List.length_append, List.length_append, Lib.size_eq]
  omega
theorem txts_new (w : World) (xs : List ByteArray) : Txts (w.alloc (.cells (xs.map Value.string).toArray 9)) (w.alloc (.cells (xs.map Value.string).toArray 9)).heap.size (some ⟨w.heap.size, 0, none⟩) xs := by
  intro _
  refine ⟨w.heap.size, 0, rfl, by simp, fun j x hx => ?_⟩
  have := (Blk.new w 9 (xs.map Value.string).toArray).cell (0 + j)
  rw [this]
  simp [hx]
theorem txts_at (w : World) (cs : Array Value) (xs : List ByteArray) (g : Nat) (hg : w.heap.size = g) (hcs : cs = (xs.map Value.string).toArray) :
    Txts (w.alloc (.cells cs 9)) (w.alloc (.cells cs 9)).heap.size (some ⟨g, 0, none⟩) xs := by
  subst hg; subst hcs
  exact txts_new w xs
def TextsFit (xs : List ByteArray) : Prop := xs.length ≤ 1000 ∧ ∀ x ∈ xs, x.size ≤ 100000
theorem cats_bound (xs : List ByteArray) (B : Nat) (h : ∀ x ∈ xs, x.size ≤ B) : (cats xs).length ≤ xs.length * B := by
  induction xs with
  | nil => simp [cats]
  | cons x l ih =>
    have h1 := ih (fun y hy => h y (by simp [hy]))
    have h2 := h x (by simp)
    have e : cats (x :: l) = x.data.toList ++ cats l := by simp [cats]
    rw [e, List.length_append, List.length_cons, Nat.add_mul, ← Lib.size_eq]
    omega
theorem cats_one (x : ByteArray) : cats [x] = x.data.toList := by simp [cats]
end Go.Proofs.Ytkcjiogackkecaa
