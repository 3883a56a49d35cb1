/-
  Rows of bytes that a call makes: zero bytes, and a text out of a row. No statement is proved here.
-/
import Derived.Test.YtkcjiogackkecaaTxts
import Derived.BigCall
import Derived.Deep.AppendLies
import Derived.Lib.Bytes
namespace Go.Proofs.Ytkcjiogackkecaa
open Go.RowKit

theorem byte_info : (Try.prog.info? 5).map (fun i => (i.zero, i.size, i.bytes)) = some (some (.int .u8 0), 1, 1) := by kernel_rfl
/-- So many zero bytes. -/
def zeroB (n : Nat) : ByteArray := ⟨(List.replicate n 0).toArray⟩
theorem zeroB_list (n : Nat) : (zeroB n).data.toList = List.replicate n 0 := rfl
theorem zeroB_size (n : Nat) : (zeroB n).size = n := by show (List.replicate n (0 : UInt8)).toArray.size = n; simp
theorem zeros_make (w : World) (n : Nat) (h1 : n ≤ 70000) :
    (Instr.makeSlice 66 (.int .i64 n) (.int .i64 n)).run Try.prog w = .ok (.slice (some ⟨w.heap.size, 0, none⟩) n n) (w.alloc (.cells (Lib.byteCells (zeroB n).data.toList).toArray 5)) := by
  obtain ⟨i0, hi, hz0, hz1, hz2⟩ := info_parts byte_info
  have hr := run_makeSlice (P := Try.prog) w 66 5 i0 (.int .u8 0) Try.underlying66 hi hz0 .i64 .i64 n n (by omega) (Int.le_refl _) (by rw [hz1]; omega) (by rw [hz2]; omega) (by omega)
  have hc : madeCells (Value.int .u8 0).cells ((n : Int).toNat * i0.size) = (Lib.byteCells (zeroB n).data.toList).toArray := by
    rw [hz1, Nat.mul_one, zeroB_list]
    refine Array.toList_inj.1 ?_
    rw [show (Value.int .u8 0).cells = #[Value.int .u8 0] from rfl, toList_madeCells_one]
    simp [Lib.byteCells]
  rw [hc] at hr
  exact hr
theorem zeros_convert (w : World) (n : Nat) :
    (convert 66 9 (.slice (some ⟨w.heap.size, 0, none⟩) n n)).run Try.prog (w.alloc (.cells (Lib.byteCells (zeroB n).data.toList).toArray 5)) = .ok (.string (zeroB n)) (w.alloc (.cells (Lib.byteCells (zeroB n).data.toList).toArray 5)) := by
  have hl : (zeroB n).data.toList.length = n := by rw [zeroB_list, List.length_replicate]
  have hr := run_convert_bytes_back (P := Try.prog) (w.alloc (.cells (Lib.byteCells (zeroB n).data.toList).toArray 5)) 66 9 5 ⟨w.heap.size, 0, none⟩ (zeroB n).data.toList.length (zeroB n).data.toList Try.underlying66 Try.underlying5 Try.underlying9
    (fun j hj => by
      rw [Go.WideShapes.add_plain, (Blk.new w 5 (Lib.byteCells (zeroB n).data.toList).toArray).cell (0 + j)]
      simp [Lib.byteCells]
      exact ⟨(zeroB n).data[j]'(by simpa using hj), Array.getElem?_eq_getElem (by simpa using hj), rfl⟩)
  rw [hl] at hr
  exact hr

/-- A text out of a row that a call has filled. -/
theorem row_text (w : World) (base g cap : Nat) (l : List UInt8) (n : Nat) (hn : l.length = n) (h : w.ownsRow base 5 1 (.slice (some ⟨g, 0, none⟩) n cap) n (Lib.byteCells l)) :
    (convert 66 9 (.slice (some ⟨g, 0, none⟩) n cap)).run Try.prog w = .ok (.string ⟨l.toArray⟩) w := by
  have hcv := run_convert_bytes_back (P := Try.prog) w 66 9 5 ⟨g, 0, none⟩ cap l Try.underlying66 Try.underlying5 Try.underlying9
    (fun i hi => h.cells (g := g) rfl i _ (by simp [Lib.byteCells, List.getElem?_eq_getElem hi]))
  rw [hn] at hcv
  exact hcv
end Go.Proofs.Ytkcjiogackkecaa
