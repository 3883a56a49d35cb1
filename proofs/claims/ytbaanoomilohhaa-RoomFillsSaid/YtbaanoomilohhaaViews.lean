/-
  Lists that came in as arguments, read off the form's own reading of them.
-/
import Derived.Test.YtbaanoomilohhaaTxts
import Derived.WalkKit
import Derived.ProofKit
import Derived.OpenShut
import Derived.SliceStrings
import Derived.ChangeSlices
namespace Go.Proofs.Ytbaanoomilohhaa
open Go.ChangeShapes Go.WideShapes Go.ChangeAt Go.RowKit
open Go.WideMaps Go.WideElems

theorem laidOut : laidOutB Try.prog = true := by kernel_rfl
theorem cellsStr : Try.prog.cellsOf 9 = 1 := by kernel_rfl

/-- Texts as they came in: each is an int long, and so are all. -/
structure TextsIn (w : World) (A : Option Addr) (m c : Nat) (xs : List ByteArray) : Prop where
  len : xs.length = m
  lie : Txts w w.heap.size A xs
  nil_ : A = none → c = 0
  few : m ≤ 9223372036854775807
  short : ∀ x ∈ xs, x.size ≤ 9223372036854775807

/-- Cells from an address on are cells of one block, where there is one at all. -/
theorem plain_at {W : World} {a : Addr} {n : Nat} {f : Nat → Value} (h : ∀ i, i < n → W.cell? (a.add i) = some (f i)) (hp : 0 < n) :
    ∃ b off, a = ⟨b, off, none⟩ ∧ b < W.heap.size ∧ ∀ j, j < n → W.cell? ⟨b, off + j, none⟩ = some (f j) := by
  obtain ⟨b, off, spot⟩ := a
  have hspot : spot = none := by simpa [Addr.add] using World.cell?_spot (h 0 hp)
  subst hspot
  have hc : ∀ j, j < n → W.cell? ⟨b, off + j, none⟩ = some (f j) := fun j hj => by rw [← Go.WideShapes.add_plain]; exact h j hj
  exact ⟨b, off, rfl, World.block_lt_of_cell? W _ (hc 0 hp), hc⟩

theorem cellsByte : Try.prog.cellsOf 5 = 1 := by kernel_rfl

/-- Bytes as they came in. -/
structure BytesIn (w : World) (A : Option Addr) (m c : Nat) (l : List UInt8) : Prop where
  len : l.length = m
  lie : 0 < l.length → ∃ b off, A = some ⟨b, off, none⟩ ∧ b < w.heap.size ∧ ∀ (j : Nat) (x : UInt8), l[j]? = some x → w.cell? ⟨b, off + j, none⟩ = some (.int .u8 (x.toNat : Int))
  nil_ : A = none → c = 0
  few : m ≤ 9223372036854775807
  cap : m ≤ c

/-- A number of a byte, as a byte. -/
theorem byte_of {n : Int} (h : (Lit.int .u8 n).wf = true) : ∃ x : UInt8, n = (x.toNat : Int) := by
  obtain ⟨h0, h1⟩ := bounds_u8 h
  refine ⟨n.toNat.toUInt8, ?_⟩
  have : (n.toNat.toUInt8).toNat = n.toNat % 256 := by simp [Nat.toUInt8]
  rw [this]
  omega
theorem bytes_of {zs : List Int} (h : ∀ n ∈ zs, (Lit.int .u8 n).wf = true) : ∃ l : List UInt8, zs = l.map fun x => (x.toNat : Int) := by
  induction zs with
  | nil => exact ⟨[], rfl⟩
  | cons n r ih =>
    obtain ⟨l, hl⟩ := ih (fun k hk => h k (by simp [hk]))
    obtain ⟨x, hx⟩ := byte_of (h n (by simp))
    exact ⟨x :: l, by rw [hl, hx]; rfl⟩

end Go.Proofs.Ytbaanoomilohhaa
