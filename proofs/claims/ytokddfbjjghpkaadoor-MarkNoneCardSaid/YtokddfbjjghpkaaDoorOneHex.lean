/-
  Bytes in sixteens: the statements' helper.
-/
import Derived.Test.YtokddfbjjghpkaaDoorOneHigh
import Derived.Test.YtokddfbjjghpkaaDoorRegionApp
import Derived.Test.YtokddfbjjghpkaaDoorRowOps
import Derived.Deep.DeepCutAuto
import Derived.Deep.RegionWith
namespace Go.Proofs.YtokddfbjjghpkaaDoor
open Go.RowKit

def hexK : ByteArray := ⟨#[48, 49, 50, 51, 52, 53, 54, 55, 56, 57, 97, 98, 99, 100, 101, 102]⟩
theorem index_hex (w : World) (i : Nat) (h : i < 16) : (Instr.index 9 (.string hexK) (.int .u8 (i : Int))).run Tryd.prog w = .ok (.int .u8 ((hexD i).toNat : Int)) w := by
  rcases (show i = 0 ∨ i = 1 ∨ i = 2 ∨ i = 3 ∨ i = 4 ∨ i = 5 ∨ i = 6 ∨ i = 7 ∨ i = 8 ∨ i = 9 ∨ i = 10 ∨ i = 11 ∨ i = 12 ∨ i = 13 ∨ i = 14 ∨ i = 15 by omega) with rfl | rfl | rfl | rfl | rfl | rfl | rfl | rfl | rfl | rfl | rfl | rfl | rfl | rfl | rfl | rfl <;> kernel_rfl
theorem index_text (w : World) (s : ByteArray) (j : Nat) (x : UInt8) (h : s[j]? = some x) : (Instr.index 9 (.string s) (.int .i64 (j : Int))).run Tryd.prog w = .ok (.int .u8 (x.toNat : Int)) w := by
  simp [Instr.index, asIntOf, Sem.run_bind, run_underlying Tryd.underlying9, Result.andThen, h]
def hexV (b : Value) (s : ByteArray) (j : Nat) (x : UInt8) : Nat → Value
  | 0 => b
  | 1 | 6 => .string s
  | 2 | 7 => .int .i64 (j : Int)
  | 3 | 8 => .int .u8 (x.toNat : Int)
  | 4 => .int .u8 ((x.toNat / 16 : Nat) : Int)
  | 5 => .int .u8 ((hexD (x.toNat / 16)).toNat : Int)
  | 9 => .int .u8 ((x.toNat % 16 : Nat) : Int)
  | _ => .int .u8 ((hexD (x.toNat % 16)).toNat : Int)
theorem exec_index {P : Program} {a : Act} {w : World} {o : Oper} {ty : TypeId} {x y : Operand} {p q v : Value} (ho : o.op = .index ty x y) (hx : a.eval x = p) (hy : a.eval y = q) (hr : (Instr.index ty p q).run P w = .ok v w) : (execOp a.eval o).run P w = .ok (.value v) w := by
  subst hx
  subst hy
  cases o
  simp only at ho
  subst ho
  show Sem.run P (Instr.index ty (a.eval x) (a.eval y) >>= fun r => pure (Next.value r)) w = _
  rw [Sem.run_bind, hr]
  rfl
theorem hexB_length (l : List UInt8) : (hexB l).length = 2 * l.length := by
  induction l with
  | nil => rfl
  | cons x l ih => unfold hexB at ih ⊢; rw [List.flatMap_cons, List.length_append, ih, List.length_cons, List.length_cons, List.length_cons, List.length_nil]; omega
theorem hexB_next (l : List UInt8) (x : UInt8) : hexB (l ++ [x]) = hexB l ++ [hexD (x.toNat / 16), hexD (x.toNat % 16)] := by unfold hexB; simp

end Go.Proofs.YtokddfbjjghpkaaDoor
