/-
  Rows of words, a word of a block, what stays within a block: for both digests. No statement is proved here.
-/
import Derived.Test.YtokddfbjjghpkaaDoorOneSmall
import Derived.Test.YtokddfbjjghpkaaDoorBytes
namespace Go.Proofs.YtokddfbjjghpkaaDoor
open Go.RowKit

/-- Words as cells, bytes as cells. -/
def wordCells (l : List Nat) : List Value := l.map fun x : Nat => .int .u32 (x : Int)
theorem words_get {l : List Nat} {i : Nat} (hi : i < l.length) : (wordCells l).toArray[i]? = some (.int .u32 ((l.getD i 0 : Nat) : Int)) := by
  unfold wordCells
  rw [List.getElem?_toArray, List.getElem?_map, List.getElem?_eq_getElem hi, List.getD_eq_getElem?_getD, List.getElem?_eq_getElem hi]; rfl
theorem addW_cast (a b : Nat) : ((addW a b : Nat) : Int) = ((a : Int) + b) % 4294967296 := by unfold addW; omega
theorem u32_info : (Tryd.prog.info? 51).map (fun i => (i.zero, i.size, i.bytes)) = some (some (.int .u32 0), 1, 4) := by kernel_rfl
theorem getD_extract (M : ByteArray) (o n t : Nat) (ht : t < n) : (M.extract o (o + n)).data.toList.getD t 0 = M.data.toList.getD (o + t) 0 := by
  rw [ByteArray.data_extract, Array.toList_extract, List.extract_eq_take_drop, show o + n - o = n by omega, List.getD_eq_getElem?_getD, List.getD_eq_getElem?_getD, List.getElem?_take, if_pos ht, List.getElem?_drop]
theorem wordB_block (M : ByteArray) (q j : Nat) : wordB (fun t => (M.extract (64 * q + 4 * j) (64 * q + 4 * j + 4)).data.toList.getD t 0) 0 = wordB (blockB M.data.toList q) j := by
  unfold wordB blockB
  simp only [Nat.mul_zero, Nat.zero_add]
  rw [getD_extract M _ 4 0 (by omega), getD_extract M _ 4 1 (by omega), getD_extract M _ 4 2 (by omega), getD_extract M _ 4 3 (by omega)]
  simp only [Nat.add_zero, Nat.add_assoc]
theorem slice_text (w : World) (M X : ByteArray) (c : Nat) (h : c + 4 ≤ M.size) (hX : M.extract c (c + 4) = X) :
    (Instr.slice 9 (.string M) (some (.int .i64 (c : Int))) (some (.int .i64 ((c : Int) + 4))) none).run Tryd.prog w = .ok (.string X) w := by
  have h1 : (0 : Int) ≤ (c : Int) + 4 := by omega
  have h2 : (c : Int) + 4 ≤ (M.size : Int) := by omega
  have h4 : ((c : Int) + 4).toNat = c + 4 := by omega
  simp [Instr.slice, Instr.sliceBounds, Instr.sliceBound, Sem.run_bind, run_underlying Tryd.underlying9, Result.andThen, asIntOf, h1, h2, h4, hX]
/-- What stays in place within a block: the state's row. -/
def KeepH (w0 w : World) (g : Nat) (H : Array Value) : Prop := Blk w g 51 H ∧ w0.heap.size ≤ g ∧ Below w0.heap.size w0 w
theorem KeepH.new {w0 w w' : World} {g : Nat} {H : Array Value} (h : KeepH w0 w g H) (hg : w.grownBy w' none) : KeepH w0 w' g H :=
  ⟨h.1.grown hg (by intro e; cases e), h.2.1, h.2.2.trans ((below_by hg).mono h.2.2.size)⟩
theorem KeepH.row {w0 w w' : World} {g : Nat} {H : Array Value} {v : Value} (h : KeepH w0 w g H) (hg : w.grownBy w' v.ownBlock) (ho : ∀ k, v.ownBlock = some k → w0.heap.size ≤ k) (hne : some g ≠ v.ownBlock) : KeepH w0 w' g H :=
  ⟨h.1.grown hg hne, h.2.1, h.2.2.grown hg h.2.2.size ho⟩
end Go.Proofs.YtokddfbjjghpkaaDoor
