/-
  The law's own run: a row of acts on a Desk. No statement is proved here.
-/
import Derived.Test.YtolbnkpakjdnnaaGreatDoorDeskActs
namespace Go.Proofs.YtolbnkpakjdnnaaGreatDoor
open Go.RowKit

noncomputable def leastN (H : List Int) : Nat := by classical exact if h : ∃ k, Least H k then h.choose else 0
theorem leastN_spec {n : Nat} {H : List Int} (ho : HOk n H) : Least H (leastN H) := by
  have e := least_ex ho
  unfold leastN
  rw [dif_pos e]
  exact e.choose_spec
/-- New as a step: nothing where all are in use. -/
noncomputable def newS (N : Nat) (K : KD) (x : ByteArray) : KD := if leastN K.H < N - 111 then newK K (leastN K.H) x else K
noncomputable def stepK (N : Nat) (K : KD) (d : Op11) : KD :=
  if d.kind = 1 then setK K d.a (fillB d.s) else if d.kind = 2 then newS N K (fillB d.s) else if d.kind = 3 then dropK K d.l else if d.kind = 4 then stayK K d.l else K
noncomputable def runK (N : Nat) (K : KD) (ds : List Op11) : KD := ds.foldl (stepK N) K
section
variable {N : Nat} {K : KD} {h : List ByteArray} {c : Nat}
theorem Run11.newS (r : Run11 N K h c) {x : ByteArray} (hx : x.size = 256) : Run11 N (newS N K x) h c := by
  unfold Go.Proofs.YtolbnkpakjdnnaaGreatDoor.newS
  split
  · exact r.new (leastN_spec r.hok) (by assumption) hx
  · exact r
theorem Run11.step (r : Run11 N K h c) (d : Op11) (hx : (fillB d.s).size = 256) : Run11 N (stepK N K d) h c := by
  unfold stepK
  split
  · exact r.set _ _
  · split
    · exact r.newS hx
    · split
      · exact r.drop _
      · split
        · exact r.stay _
        · exact r
end
section
variable {w0 w w' : World} {g gd m N : Nat} {K : KD} {h : List ByteArray} {c : Nat} {Ms : List MK}
end
end Go.Proofs.YtolbnkpakjdnnaaGreatDoor
