/-
  The statements' first calls of package cdc. No statement is proved here.
-/
import Derived.Test.YtkcjiogackkecaaCdcCut
import Derived.Test.YtkcjiogackkecaaLoose
import Derived.Test.YtkcjiogackkecaaRowOps
namespace Go.Proofs.Ytkcjiogackkecaa
open Go.RowKit

/-- The rule of stores. -/
def dfl : RuleN := ⟨32, 64, 128, 7, 5⟩
theorem dfl_ok : dfl.ok = true := by decide
theorem rule_var {W : World} {b : Nat} {a1 a2 a3 a4 a5 : Value} (hb : Blk W b 23 #[a1, a2, a3, a4, a5]) :
    (loadVar 23 ⟨b, 0, none⟩).run Try.prog W = .ok (.agg #[a1, a2, a3, a4, a5]) W :=
  run_var_part (off := 0) hb (fun j v h => by rw [Nat.zero_add]; exact h) (fun w => by kernel_rfl) (fun w => by kernel_rfl)
set_option maxRecDepth 100000 in
set_option maxHeartbeats 1000000 in
theorem default_any (w : World) : Calls Try.prog 32 #[] w fun e w' => e = .returned (.agg #[.int .i64 32, .int .i64 64, .int .i64 128, .int .i64 7, .int .i64 5]) ∧ Below w.heap.size w w' := by
  go_enter Try.func32, Try.ntmps32
  go_wp2_with fail
  refine ret_cell rfl rfl (rule_var (Blk.new w _ _)) rfl ?_
  exact ⟨rfl, (Below.refl _ _).alloc (Nat.le_refl _) _⟩
theorem zeros_conv {w : World} {b n : Nat} (hb : Blk w b 5 (Lib.byteCells (zeroB n).data.toList).toArray) :
    (convert 66 9 (.slice (some ⟨b, 0, none⟩) n n)).run Try.prog w = .ok (.string (zeroB n)) w := by
  have hl : (zeroB n).data.toList.length = n := by rw [zeroB_list, List.length_replicate]
  have hr := run_convert_bytes_back (P := Try.prog) w 66 9 5 ⟨b, 0, none⟩ (zeroB n).data.toList.length (zeroB n).data.toList Try.underlying66 Try.underlying5 Try.underlying9
    (fun j hj => by
      rw [Go.WideShapes.add_plain, hb.cell (0 + j)]
      simp [Lib.byteCells]
      exact ⟨(zeroB n).data[j]'(by simpa using hj), Array.getElem?_eq_getElem (by simpa using hj), rfl⟩)
  rw [hl] at hr
  exact hr
theorem first_zeros : firstL dfl (zeroB 32).data.toList = 32 := by
  unfold firstL
  rw [if_pos dfl_ok, if_pos (by rw [zeroB_list, List.length_replicate]; decide), zeroB_list, List.length_replicate]
theorem cut_a : (cutL dfl 0 (cats [⟨#[97]⟩])).length = 1 := by
  have e : cats [⟨#[97]⟩] = [97] := by decide
  have h1 : firstL dfl [97] = 1 := by
    unfold firstL
    rw [if_pos dfl_ok, if_pos (by decide)]
    rfl
  rw [e, cutL_cons dfl 0 [97] (by decide), h1]
  simp [cutL_nil]
end Go.Proofs.Ytkcjiogackkecaa
