/-
  Lists that came in as arguments, read off the form's own reading of them.
-/
import Derived.Test.YtkcjiogackkecaaTxts
import Derived.WalkKit
import Derived.ProofKit
import Derived.OpenShut
import Derived.SliceStrings
import Derived.ChangeSlices
namespace Go.Proofs.Ytkcjiogackkecaa
open Go.ChangeShapes Go.WideShapes Go.ChangeAt Go.RowKit
open Go.WideMaps Go.WideElems

theorem laidOut : laidOutB Try.prog = true := by kernel_rfl
theorem cellsStr : Try.prog.cellsOf 9 = 1 := by kernel_rfl

/-- Texts as they came in: each is an int long, and so are all. -/
structure TextsIn (w : World) (A : Option Addr) (m c : Nat) (xs : List ByteArray) : Prop where
  len : xs.length = m
  lie : Txts w w.heap.size A xs
  nil_ : A = none → c = 0
  few : m ≤ 9223372036854775807
  short : ∀ x ∈ xs, x.size ≤ 9223372036854775807
  room : m ≤ c

/-- Cells from an address on are cells of one block, where there is one at all. -/
theorem plain_at {W : World} {a : Addr} {n : Nat} {f : Nat → Value} (h : ∀ i, i < n → W.cell? (a.add i) = some (f i)) (hp : 0 < n) :
    ∃ b off, a = ⟨b, off, none⟩ ∧ b < W.heap.size ∧ ∀ j, j < n → W.cell? ⟨b, off + j, none⟩ = some (f j) := by
  obtain ⟨b, off, spot⟩ := a
  have hspot : spot = none := by simpa [Addr.add] using World.cell?_spot (h 0 hp)
  subst hspot
  have hc : ∀ j, j < n → W.cell? ⟨b, off + j, none⟩ = some (f j) := fun j hj => by rw [← Go.WideShapes.add_plain]; exact h j hj
  exact ⟨b, off, rfl, World.block_lt_of_cell? W _ (hc 0 hp), hc⟩

/-- A list of texts that came in. -/
theorem view_texts {H : Type} {enc : TypeId × Value → H} {W : World} {a : Option Addr} {n c : Nat} {d : DataW H} {p : List MemPlace} (h : DataW.Trod enc Try.prog W 0 (fun _ => true) true 24 (.slice a n c) d p) :
    ∃ xs : List ByteArray, TextsIn W a n c xs := by
  obtain ⟨fuel, hf⟩ := h
  rcases open_strings Try.underlying24 Try.underlying9 cellsStr hf with ⟨hcs, _⟩ | ⟨a', len, cap, zs, hcs, _, hl, hcap, hz, _, hc, hw⟩
  · simp [Value.cells] at hcs
    obtain ⟨rfl, rfl, rfl⟩ := hcs
    exact ⟨[], rfl, Txts.nil _ _ _, fun _ => rfl, by omega, by simp, Nat.le_refl _⟩
  · simp [Value.cells] at hcs
    obtain ⟨rfl, rfl, rfl⟩ := hcs
    simp only [if_true] at hz
    have hmax : maxLen = 9223372036854775807 := rfl
    have hlen : (zs.take n).length = n := by rw [List.length_take]; omega
    refine ⟨zs.take n, hlen, ?_, (fun e => by cases e), by omega, (fun t ht => by rw [← hmax]; exact hw t (List.mem_of_mem_take ht)), by omega⟩
    intro hpos
    rw [hlen] at hpos
    obtain ⟨b, off, rfl, hb, hc'⟩ := plain_at hc (by omega)
    refine ⟨b, off, rfl, hb, fun j x hx => ?_⟩
    rw [List.getElem?_take] at hx
    split at hx
    · have := hc' j (by omega)
      rw [this, List.getD_eq_getElem?_getD, hx]
      rfl
    · cases hx
theorem cellsByte : Try.prog.cellsOf 5 = 1 := by kernel_rfl

/-- Bytes as they came in. -/
structure BytesIn (w : World) (A : Option Addr) (m c : Nat) (l : List UInt8) : Prop where
  len : l.length = m
  lie : 0 < l.length → ∃ b off, A = some ⟨b, off, none⟩ ∧ b < w.heap.size ∧ ∀ (j : Nat) (x : UInt8), l[j]? = some x → w.cell? ⟨b, off + j, none⟩ = some (.int .u8 (x.toNat : Int))
  nil_ : A = none → c = 0
  few : m ≤ 9223372036854775807
  cap : m ≤ c

/-- A number of a byte, as a byte. -/
theorem byte_of {n : Int} (h : (Lit.int .u8 n).wf = true) : ∃ x : UInt8, n = (x.toNat : Int) := by
  obtain ⟨h0, h1⟩ := bounds_u8 h
  refine ⟨n.toNat.toUInt8, ?_⟩
  have : (n.toNat.toUInt8).toNat = n.toNat % 256 := by simp [Nat.toUInt8]
  rw [this]
  omega
theorem bytes_of {zs : List Int} (h : ∀ n ∈ zs, (Lit.int .u8 n).wf = true) : ∃ l : List UInt8, zs = l.map fun x => (x.toNat : Int) := by
  induction zs with
  | nil => exact ⟨[], rfl⟩
  | cons n r ih =>
    obtain ⟨l, hl⟩ := ih (fun k hk => h k (by simp [hk]))
    obtain ⟨x, hx⟩ := byte_of (h n (by simp))
    exact ⟨x :: l, by rw [hl, hx]; rfl⟩

/-- A list of bytes that came in. -/
theorem view_bytes {H : Type} {enc : TypeId × Value → H} {W : World} {a : Option Addr} {n c : Nat} {d : DataW H} {p : List MemPlace} (h : DataW.Trod enc Try.prog W 0 (fun _ => true) true 66 (.slice a n c) d p) :
    ∃ l : List UInt8, BytesIn W a n c l := by
  obtain ⟨fuel, hf⟩ := h
  rcases open_ints Try.underlying66 Try.underlying5 cellsByte hf with ⟨hcs, _⟩ | ⟨a', len, cap, zs, hcs, _, hl, hcap, hz, _, hc, hw⟩
  · simp [Value.cells] at hcs
    obtain ⟨rfl, rfl, rfl⟩ := hcs
    exact ⟨[], rfl, fun h => absurd h (by simp), fun _ => rfl, by omega, by omega⟩
  · simp [Value.cells] at hcs
    obtain ⟨rfl, rfl, rfl⟩ := hcs
    simp only [if_true] at hz
    have hmax : maxLen = 9223372036854775807 := rfl
    obtain ⟨l, rfl⟩ := bytes_of hw
    rw [List.length_map] at hz
    have hlen : (l.take n).length = n := by rw [List.length_take]; omega
    refine ⟨l.take n, hlen, ?_, (fun e => by cases e), by omega, hl⟩
    intro hpos
    rw [hlen] at hpos
    obtain ⟨b, off, rfl, hb, hc'⟩ := plain_at hc (by rw [List.length_map]; omega)
    refine ⟨b, off, rfl, hb, fun j x hx => ?_⟩
    rw [List.getElem?_take] at hx
    split at hx
    · have := hc' j (by rw [List.length_map]; omega)
      rw [this, List.getD_eq_getElem?_getD, List.getElem?_map, hx]
      rfl
    · cases hx
end Go.Proofs.Ytkcjiogackkecaa
