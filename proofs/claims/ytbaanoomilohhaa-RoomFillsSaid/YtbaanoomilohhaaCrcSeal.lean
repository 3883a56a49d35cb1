/-
  crc.Seal, whatever is handed over.
-/
import Derived.Test.YtbaanoomilohhaaCrcOf
namespace Go.Proofs.Ytbaanoomilohhaa
open Go.RowKit

/-- What Seal answers, as values. -/
def sealV (n : Int) (l : List UInt8) : Value := .tuple #[.string ⟨(sealB n l).1.toArray⟩, .int .i64 (sealB n l).2]
theorem raws_new (xs : List ByteArray) : (Wr.mk [] 0).raws xs = ⟨cats xs, 0⟩ := by unfold Wr.raws Wr.lay; rw [if_pos rfl]; rfl
theorem pad_new {n : Int} {l : List UInt8} (h1 : n ≤ 65536) (h : (l.length : Int) ≤ n - 4) : (Wr.mk l 0).pad (n - 4) = ⟨body n l, 0⟩ := by
  unfold Wr.pad
  rw [if_neg (by omega), if_neg (by simp only []; omega)]
  unfold Wr.lay
  rw [if_pos rfl]
  rfl
theorem word_new (l : List UInt8) {k : Nat} (h : k < 4294967296) : (Wr.mk l 0).nums 4 [(k : Int)] = ⟨l ++ lowBytes 4 k, 0⟩ := by
  have hf : allFit 4 [(k : Int)] = true := by
    unfold allFit
    rw [List.all_cons, List.all_nil, Bool.and_true, fits_iff]
    omega
  unfold Wr.nums
  rw [if_pos hf]
  unfold Wr.lay
  rw [if_pos rfl]
  have e : allBytes 4 [(k : Int)] = lowBytes 4 k := by unfold allBytes; rw [List.flatMap_cons, List.flatMap_nil, List.append_nil]; rfl
  rw [e]
theorem roomB_yes {n : Int} {l : List UInt8} (h : (l.length : Int) ≤ n) : roomB n l = true := decide_eq_true h
theorem roomB_no {n : Int} {l : List UInt8} (h : ¬ (l.length : Int) ≤ n) : roomB n l = false := decide_eq_false h

end Go.Proofs.Ytbaanoomilohhaa
