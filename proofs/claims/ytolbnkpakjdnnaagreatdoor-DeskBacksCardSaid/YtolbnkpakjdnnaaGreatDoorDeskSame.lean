/-
  What a run of acts leaves as it was: all but which sectors are in use and what is laid. No statement is proved here.
-/
import Derived.Test.YtolbnkpakjdnnaaGreatDoorDeskRun
namespace Go.Proofs.YtolbnkpakjdnnaaGreatDoor
open Go.RowKit

theorem backK_self (K : KD) : backK K K.F K.H = K := rfl
theorem backK_twice (K : KD) (F F' : Int → ByteArray) (H H' : List Int) : backK (backK K F H) F' H' = backK K F' H' := rfl
theorem stepK_back (N : Nat) (K : KD) (d : Op11) : ∃ F H, stepK N K d = backK K F H := by
  unfold stepK
  split
  · unfold setK
    split
    · exact ⟨_, _, rfl⟩
    · split
      · exact ⟨_, _, rfl⟩
      · exact ⟨_, _, rfl⟩
  · split
    · unfold newS
      split
      · exact ⟨_, _, rfl⟩
      · exact ⟨_, _, rfl⟩
    · split
      · unfold dropK
        split
        · exact ⟨_, _, rfl⟩
        · exact ⟨_, _, rfl⟩
      · split
        · rcases Classical.em (StayOk K d.l) with e | e
          · rw [(stay_yes e).2]; exact ⟨_, _, rfl⟩
          · rw [(stay_no e).2]; exact ⟨_, _, rfl⟩
        · exact ⟨_, _, rfl⟩
theorem runK_back (N : Nat) : ∀ (ds : List Op11) (K : KD), ∃ F H, runK N K ds = backK K F H
  | [], K => ⟨K.F, K.H, rfl⟩
  | d :: r, K => by
    obtain ⟨F, H, e⟩ := stepK_back N K d
    obtain ⟨F', H', e'⟩ := runK_back N r (stepK N K d)
    refine ⟨F', H', ?_⟩
    show runK N (stepK N K d) r = _
    rw [e', e, backK_twice]
theorem runK_syncs (N : Nat) (ds : List Op11) (K : KD) : (runK N K ds).syncs = K.syncs := by
  obtain ⟨F, H, e⟩ := runK_back N ds K
  rw [e]; rfl
/-- Gone back to, whatever was run meanwhile. -/
theorem run_back (N : Nat) (ds : List Op11) (K : KD) : backK (runK N K ds) K.F K.H = K := by
  obtain ⟨F, H, e⟩ := runK_back N ds K
  rw [e]; rfl
end Go.Proofs.YtolbnkpakjdnnaaGreatDoor
