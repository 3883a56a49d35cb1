/-
  Numbers in bytes, the highest first; what stands behind bytes: the document's own.
-/
import Derived.Test.YtokddfbjjghpkaaDoorOneSmall
import Derived.Test.YtokddfbjjghpkaaDoorBytes
import Derived.Outline
namespace Go.Proofs.YtokddfbjjghpkaaDoor
open Go.RowKit

theorem highB_get (v : Nat) : ∀ (n j : Nat), j < n → (highB v n)[j]? = some ((v >>> (8 * (n - 1 - j))).toUInt8)
  | 0, _, h => by omega
  | n + 1, 0, _ => by unfold highB; rw [List.getElem?_cons_zero]; rfl
  | n + 1, j + 1, h => by
    unfold highB
    rw [List.getElem?_cons_succ, highB_get v n j (by omega)]
    congr 4
    omega
theorem highB_take (v n j : Nat) (h : j < n) : (highB v n).take (j + 1) = (highB v n).take j ++ [(v >>> (8 * (n - 1 - j))).toUInt8] := by
  rw [List.take_add_one, highB_get v n j h]; rfl
theorem byteCells_snoc (l : List UInt8) (x : UInt8) : Lib.byteCells l ++ [Value.int .u8 (x.toNat : Int)] = Lib.byteCells (l ++ [x]) := by simp [Lib.byteCells]
theorem byteCells_len (l : List UInt8) : (Lib.byteCells l).length = l.length := by simp [Lib.byteCells]

theorem shr_byte (v k : Nat) : (v : Int) / 2 ^ k % 256 = ((v >>> k).toUInt8.toNat : Int) := by
  have h : (v >>> k).toUInt8.toNat = v / 2 ^ k % 256 := by rw [Nat.shiftRight_eq_div_pow]; exact UInt8.toNat_ofNat'
  rw [h, Int.natCast_emod, Int.natCast_ediv, Int.natCast_pow]
  rfl

end Go.Proofs.YtokddfbjjghpkaaDoor
