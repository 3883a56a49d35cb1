/-
  Rows of bytes that a call makes: zero bytes, and a text out of a row. No statement is proved here.
-/
import Derived.Test.YtbaanoomilohhaaTxts
import Derived.BigCall
import Derived.Deep.AppendLies
import Derived.Lib.Bytes
namespace Go.Proofs.Ytbaanoomilohhaa
open Go.RowKit

theorem byte_info : (Try.prog.info? 5).map (fun i => (i.zero, i.size, i.bytes)) = some (some (.int .u8 0), 1, 1) := by kernel_rfl
/-- So many zero bytes. -/
def zeroB (n : Nat) : ByteArray := ⟨(List.replicate n 0).toArray⟩
theorem zeroB_list (n : Nat) : (zeroB n).data.toList = List.replicate n 0 := rfl
theorem zeroB_size (n : Nat) : (zeroB n).size = n := by show (List.replicate n (0 : UInt8)).toArray.size = n; simp
end Go.Proofs.Ytbaanoomilohhaa
