/-
  SHA-256, the document's own.
-/
import Derived.Test.YtokddfbjjghpkaaDoorOneRefPad
import Derived.Test.YtokddfbjjghpkaaDoorTwoSmall
import Derived.Test.YtokddfbjjghpkaaDoorWordRows
import Derived.Test.YtokddfbjjghpkaaDoorRowOps
import Derived.Test.YtokddfbjjghpkaaDoorRegionApp
import Derived.Deep.DeepCutAuto
import Derived.Deep.RegionWith
import Derived.StillTailTactics
namespace Go.Proofs.YtokddfbjjghpkaaDoor
open Go.RowKit

def s8Cells (s : S8) : Array Value := (wordCells s.words).toArray
theorem s8_get (s : S8) {i : Nat} (h : i < 8) : (s8Cells s)[i]? = some (.int .u32 ((s.words.getD i 0 : Nat) : Int)) := words_get (l := s.words) h
/-- What stays in place within a block: the state's row, the numbers of the rounds. -/
def Keep2 (w0 w : World) (g gk : Nat) (H : Array Value) : Prop := KeepH w0 w g H ∧ Blk w gk 51 keyCells ∧ w0.heap.size ≤ gk ∧ gk ≠ g
theorem Keep2.new {w0 w w' : World} {g gk : Nat} {H : Array Value} (h : Keep2 w0 w g gk H) (hg : w.grownBy w' none) : Keep2 w0 w' g gk H :=
  ⟨h.1.new hg, h.2.1.grown hg (by intro e; cases e), h.2.2⟩
theorem Keep2.row {w0 w w' : World} {g gk : Nat} {H : Array Value} {v : Value} (h : Keep2 w0 w g gk H) (hg : w.grownBy w' v.ownBlock) (ho : ∀ k, v.ownBlock = some k → w0.heap.size ≤ k) (hne : some g ≠ v.ownBlock) (hnk : some gk ≠ v.ownBlock) : Keep2 w0 w' g gk H :=
  ⟨h.1.row hg ho hne, h.2.1.grown hg hnk, h.2.2⟩
theorem keep2_new (w w2 : World) (A : Array Value) (hb : Below ((w.alloc (.cells A 51)).alloc (.cells keyCells 51)).heap.size ((w.alloc (.cells A 51)).alloc (.cells keyCells 51)) w2) : Keep2 w w2 w.heap.size (w.heap.size + 1) A := by
  have h1 : Blk ((w.alloc (.cells A 51)).alloc (.cells keyCells 51)) w.heap.size 51 A := (Blk.new w _ A).alloc _
  have h2 : Blk ((w.alloc (.cells A 51)).alloc (.cells keyCells 51)) (w.heap.size + 1) 51 keyCells := by
    have := Blk.new (w.alloc (.cells A 51)) 51 keyCells
    simpa using this
  have h3 : Below w.heap.size w ((w.alloc (.cells A 51)).alloc (.cells keyCells 51)) := ((Below.refl _ _).alloc (Nat.le_refl _) _).alloc (by simp) _
  exact ⟨⟨h1.below hb h1.lt, Nat.le_refl _, h3.trans (hb.mono h3.size)⟩, h2.below hb h2.lt, by omega, by omega⟩
/-- A state of which the first i words have been raised. -/
def upCells (s z : S8) (i : Nat) : Array Value := (wordCells ((s.plus z).words.take i ++ s.words.drop i)).toArray
theorem upCells_zero (s z : S8) : upCells s z 0 = s8Cells s := rfl
theorem upCells_all (s z : S8) : upCells s z 8 = s8Cells (s.plus z) := rfl
theorem upCells_get (s z : S8) {i : Nat} (h : i < 8) : (upCells s z i)[i]? = some (.int .u32 ((s.words.getD i 0 : Nat) : Int)) := by
  match i, h with
  | 0, _ => rfl
  | 1, _ => rfl
  | 2, _ => rfl
  | 3, _ => rfl
  | 4, _ => rfl
  | 5, _ => rfl
  | 6, _ => rfl
  | 7, _ => rfl
theorem upCells_set (s z : S8) {i : Nat} (h : i < 8) : (upCells s z i).setIfInBounds i (.int .u32 ((addW (s.words.getD i 0) (z.words.getD i 0) : Nat) : Int)) = upCells s z (i + 1) := by
  match i, h with
  | 0, _ => rfl
  | 1, _ => rfl
  | 2, _ => rfl
  | 3, _ => rfl
  | 4, _ => rfl
  | 5, _ => rfl
  | 6, _ => rfl
  | 7, _ => rfl
theorem words2_next_later {p : Nat → UInt8} {l : List Nat} {j : Nat} (h : ¬ j < 16) : next2 p l j = addW (addW (addW (l.getD (j - 16) 0) (l.getD (j - 7) 0)) (low0 (l.getD (j - 15) 0))) (low1 (l.getD (j - 2) 0)) := by
  unfold next2
  rw [if_neg h]
theorem shr3 (x : Nat) : (x : Int) / 8 = ((x >>> 3 : Nat) : Int) := by rw [Nat.shiftRight_eq_div_pow]; show (x : Int) / 8 = ((x / 8 : Nat) : Int); omega
theorem shr10 (x : Nat) : (x : Int) / 1024 = ((x >>> 10 : Nat) : Int) := by rw [Nat.shiftRight_eq_div_pow]; show (x : Int) / 1024 = ((x / 1024 : Nat) : Int); omega
theorem cell_far (w : World) {g b : Nat} (h : b ≠ g) (i k : Nat) (v : Value) : (w.setCell ⟨g, k, none⟩ v).cell? ⟨b, i, none⟩ = w.cell? ⟨b, i, none⟩ := by
  have hb := Below.heap_setCell w ⟨g, k, none⟩ v b h
  simp [World.cell?, hb]
theorem words8_lt {s : S8} (h : s.ok) {i : Nat} (hi : i < 8) : s.words.getD i 0 < 4294967296 := by
  match i, hi with
  | 0, _ => exact h.1.1
  | 1, _ => exact h.1.2.1
  | 2, _ => exact h.1.2.2.1
  | 3, _ => exact h.1.2.2.2
  | 4, _ => exact h.2.1
  | 5, _ => exact h.2.2.1
  | 6, _ => exact h.2.2.2.1
  | 7, _ => exact h.2.2.2.2
theorem words8_some (s : S8) {i : Nat} (hi : i < 8) : s.words[i]? = some (s.words.getD i 0) := by
  match i, hi with
  | 0, _ => rfl
  | 1, _ => rfl
  | 2, _ => rfl
  | 3, _ => rfl
  | 4, _ => rfl
  | 5, _ => rfl
  | 6, _ => rfl
  | 7, _ => rfl
theorem words8_bytes (s : S8) {j : Nat} (h : j < 8) : ((s.words.take j).flatMap fun x => highB x 4).length = 4 * j := by
  match j, h with
  | 0, _ => rfl
  | 1, _ => rfl
  | 2, _ => rfl
  | 3, _ => rfl
  | 4, _ => rfl
  | 5, _ => rfl
  | 6, _ => rfl
  | 7, _ => rfl
theorem Keep2.put {w0 w : World} {g gk : Nat} {H : Array Value} (h : Keep2 w0 w g gk H) (i : Nat) (v : Value) : Keep2 w0 (w.setCell ⟨g, i, none⟩ v) g gk (H.setIfInBounds i v) :=
  ⟨⟨h.1.1.put i v, h.1.2.1, h.1.2.2.setCell h.1.2.1 v⟩, h.2.1.far h.2.2.2 v, h.2.2⟩
/-- What the operations of a later word leave. -/
def twoV (b : Value) (g j y0 y1 x y : Nat) : Nat → Value
  | 0 | 1 | 6 => b
  | 2 | 7 => .int .i64 (j : Int)
  | 3 => .int .i64 ((j - 16 : Nat) : Int)
  | 8 => .int .i64 ((j - 7 : Nat) : Int)
  | 4 => .pointer (some ⟨g, j - 16, none⟩)
  | 9 => .pointer (some ⟨g, j - 7, none⟩)
  | 5 => .int .u32 (y0 : Int)
  | 10 => .int .u32 (y1 : Int)
  | 11 => .int .u32 ((addW y0 y1 : Nat) : Int)
  | 12 | 14 | 17 => .int .u32 (x : Int)
  | 13 => .int .u32 ((rotl x 25 : Nat) : Int)
  | 15 => .int .u32 ((rotl x 14 : Nat) : Int)
  | 16 => .int .u32 ((rotl x 25 ^^^ rotl x 14 : Nat) : Int)
  | 18 => .int .u32 ((x >>> 3 : Nat) : Int)
  | 19 => .int .u32 ((low0 x : Nat) : Int)
  | 20 => .int .u32 ((addW (addW y0 y1) (low0 x) : Nat) : Int)
  | 21 | 23 | 26 => .int .u32 (y : Int)
  | 22 => .int .u32 ((rotl y 15 : Nat) : Int)
  | 24 => .int .u32 ((rotl y 13 : Nat) : Int)
  | 25 => .int .u32 ((rotl y 15 ^^^ rotl y 13 : Nat) : Int)
  | 27 => .int .u32 ((y >>> 10 : Nat) : Int)
  | 28 => .int .u32 ((low1 y : Nat) : Int)
  | _ => .int .u32 ((addW (addW (addW y0 y1) (low0 x)) (low1 y) : Nat) : Int)

end Go.Proofs.YtokddfbjjghpkaaDoor
