/-
  ChainRings: the law's walk. No statement is proved here.
-/
import Derived.Test.YtnamokngiebicaaGreatDoorLinkMid
namespace Go.Proofs.YtnamokngiebicaaGreatDoor
open Go.RowKit

section
variable {N : Nat} {K : KD} {gen tag refs : Int} {b : ByteArray} {ps : List Int}
theorem getD_inj {ps : List Int} (hn : ps.Nodup) {i j : Nat} (hi : i < ps.length) (hj : j < ps.length) (h : ps.getD i 0 = ps.getD j 0) : i = j := by
  rw [List.getD_eq_getElem?_getD, List.getD_eq_getElem?_getD, List.getElem?_eq_getElem hi, List.getElem?_eq_getElem hj] at h
  have h : ps[i] = ps[j] := h
  rcases Nat.lt_trichotomy i j with hlt | hlt | hlt
  · exact absurd h (List.pairwise_iff_getElem.1 hn i j hi hj hlt)
  · exact hlt
  · exact absurd h.symm (List.pairwise_iff_getElem.1 hn j i hj hi hlt)
theorem lay_ok (hc : ChainOn K.F gen tag refs b ps) (hH : ∀ p ∈ ps, p ∈ K.H) {j : Nat} (hj : j < ps.length) {s : ByteArray} (hs : s.size = 256) : setE K (ps.getD j 0) s = 0 ∧ setK K (ps.getD j 0) s = layK K (ps.getD j 0) s := by
  have hm := hc.mem hj
  have h2 := hc.range _ hm
  have hno : ¬ (ps.getD j 0 = 1 ∨ ps.getD j 0 ∉ K.H) := by
    rintro (h | h)
    · omega
    · exact h (hH _ hm)
  unfold setE setK
  rw [if_neg hno, if_neg hno, if_pos hs, if_pos hs]
  exact ⟨rfl, rfl⟩
end
end Go.Proofs.YtnamokngiebicaaGreatDoor
