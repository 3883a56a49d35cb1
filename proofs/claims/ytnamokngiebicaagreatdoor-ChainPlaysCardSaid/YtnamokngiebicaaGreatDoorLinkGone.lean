/-
  A chain that is dropped: what is in use then. No statement is proved here.
-/
import Derived.Test.YtnamokngiebicaaGreatDoorLinkMid
import Derived.Test.YtnamokngiebicaaGreatDoorDeskSeen
namespace Go.Proofs.YtnamokngiebicaaGreatDoor
open Go.RowKit

theorem drop_all {n : Nat} : ∀ (ps : List Int) (H : List Int), HOk n H → ps.Nodup → (∀ p ∈ ps, p ∈ H ∧ 2 ≤ p) → ∃ H', dropR H ps = some H' ∧ HOk n H' ∧ H'.length + ps.length = H.length ∧ ∀ z, z ∈ H' ↔ z ∈ H ∧ z ∉ ps
  | [], H, ho, _, _ => ⟨H, rfl, ho, rfl, fun z => by simp⟩
  | x :: r, H, ho, hn, hp => by
    obtain ⟨h1, h2⟩ := hp x (by simp)
    obtain ⟨hx, hr⟩ := List.nodup_cons.1 hn
    obtain ⟨H', a1, a2, a3, a4⟩ := drop_all r (dropL x H) (ho.drop x) hr (fun p hpr => by
      obtain ⟨b1, b2⟩ := hp p (by simp [hpr])
      exact ⟨(dropL_mem _ _ _).2 ⟨b1, fun e => hx (e ▸ hpr)⟩, b2⟩)
    refine ⟨H', ?_, a2, ?_, fun z => ?_⟩
    · unfold dropR
      rw [if_neg]
      · exact a1
      · rintro (h | h | h)
        · omega
        · omega
        · exact h h1
    · have := dropL_length ho.rise h1
      rw [List.length_cons]
      omega
    · rw [a4, dropL_mem]
      simp only [List.mem_cons, not_or]
      constructor
      · rintro ⟨⟨q1, q2⟩, q3⟩
        exact ⟨q1, q2, q3⟩
      · rintro ⟨q1, q2, q3⟩
        exact ⟨⟨q1, q2⟩, q3⟩
/-- A chain that is dropped. -/
theorem on_drop {N : Nat} {K : KD} {gen tag refs : Int} {b : ByteArray} {ps : List Int} (hc : ChainOn K.F gen tag refs b ps) (hn : ps.Nodup) (ho : HOk (N - 111) K.H) (hin : ∀ p ∈ ps, p ∈ K.H) :
    cdropE K (ps.getD 0 0) = 0 ∧ ∃ H', cdropK K (ps.getD 0 0) = useK K H' ∧ HOk (N - 111) H' ∧ H'.length + ps.length = K.H.length ∧ ∀ z, z ∈ H' ↔ z ∈ K.H ∧ z ∉ ps := by
  obtain ⟨H', a1, a2, a3, a4⟩ := drop_all ps K.H ho hn (fun p hp => ⟨hin p hp, (hc.range p hp).1⟩)
  have e0 : (chainR K (ps.getD 0 0)).2 = 0 := by rw [on_chainR hc]
  have e1 := on_secs hc
  refine ⟨?_, H', ?_, a2, a3, a4⟩
  · unfold cdropE
    rw [if_neg (by rw [e0]; simp), e1]
    unfold dropE
    rw [a1]
  · unfold cdropK
    rw [if_neg (by rw [e0]; simp), e1]
    unfold dropK
    rw [a1]
end Go.Proofs.YtnamokngiebicaaGreatDoor
