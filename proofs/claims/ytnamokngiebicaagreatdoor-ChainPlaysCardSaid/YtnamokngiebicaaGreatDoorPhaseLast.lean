/-
  A region that draws its order: its last assignment. No statement is proved here.
-/
import Derived.Test.YtnamokngiebicaaGreatDoorHeadParse
namespace Go.Proofs.YtnamokngiebicaaGreatDoor
open Go.RowKit

theorem wpOps_last {P : Program} {ops : Array Oper} {Q : Exit → Act → World → Prop} {lo k j d ty : Nat} {pos : String} {af : Array Edge} {f : Nat → Value} {t : Array Value} {ds : List Deferred} {w : World} {v : Value}
    (hop : ops[k]? = some { dst := some d, op := .assign (.tmp (lo + j)), type := ty, pos := pos, after := af, guard := none }) (hlo : lo + k ≤ t.size) (hj : j < k) (hv : f j = v)
    (hQ : Q .normal ⟨(putAll lo k f t).setIfInBounds d v, ds⟩ w) : wpOps P ops Q (List.range' k 1) ⟨putAll lo k f t, ds⟩ w := by
  have e : (putAll lo k f t)[lo + j]? = some v := by
    rw [putAll_get _ _ _ _ hlo, if_pos (by omega), Nat.add_sub_cancel_left, hv]
  show wpOps P ops Q [k] _ w
  rw [wpOps_cons]
  refine wpOp_value (v := v) (w' := w) hop rfl ?_ hQ
  simp [execOp, Act.eval, e]
end Go.Proofs.YtnamokngiebicaaGreatDoor
