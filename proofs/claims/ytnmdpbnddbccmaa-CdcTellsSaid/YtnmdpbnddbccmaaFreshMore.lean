/-
  A region that draws its order: operations that read, and operations that make a row each, of rows that others of them made, too. No statement is proved here.
-/
import Derived.Test.YtnmdpbnddbccmaaPhase
namespace Go.Proofs.Ytnmdpbnddbccmaa
open Go.RowKit

/-- Operations that read, and operations that make a row each; then sinks; an operation that makes a row may read rows that others made. -/
theorem wp_region_fresher {P : Program} {ops : Array Oper} {Q : Exit → Act → World → Prop} (lo k hi m : Nat) (V : Nat → Value) (R : Nat → Option Made) {id : Nat} {a : Act} {W : World}
    (hm : P.follows .mixedOrders = true) (he : early .any ops = true) (hsz : ops.size = k + m) (hm0 : 0 < m) (hsink : (List.range' k m).all (fun i => sinkL ops i) = true) (hhi : lo + k = hi + 1) (hlo : lo + k ≤ a.tmps.size)
    (hval : ∀ i, i < k → R i = none → ∀ (x : Act) (w' : World), Below W.heap.size W w' → FrameKept a lo hi x → (∀ j ∈ waitsFor .any ops i, j < k → R j = none → x.tmps[lo + j]?.getD undef = V j) → wpOp P ops Q i (fun x' w'' => x' = x.put (some (lo + i)) (V i) ∧ w' = w'') x w')
    (hrow : ∀ i r, i < k → R i = some r → ∀ (x : Act) (w' : World), Below W.heap.size W w' → FrameKept a lo hi x → (∀ j ∈ waitsFor .any ops i, j < k → R j = none → x.tmps[lo + j]?.getD undef = V j) → (∀ j ∈ waitsFor .any ops i, j < k → ∀ q, R j = some q → ∃ v, x.tmps[lo + j]?.getD undef = v ∧ w'.ownsRow W.heap.size q.e q.size v q.n q.xs) → wpOp P ops Q i (fun x' w'' => ∃ v, x' = x.put (some (lo + i)) v ∧ w''.ownsRow w'.heap.size r.e r.size v r.n r.xs ∧ Below w'.heap.size w' w'') x w')
    (hrest : ∀ (L : Nat → Bool) (f : Nat → Value) (w' : World), (∀ j, j < k → L j = true) → FreshJ W k V R L f w' → wpOps P ops Q (List.range' k m) ⟨putAll lo k f a.tmps, a.defers⟩ w') : (Code.region id ops true).wp P Q a W := by
  refine wp_region_phase lo k hi m (FreshJ W k V R) hm he hsz hm0 hsink hhi hlo ?_ ?_ hrest
  · exact ⟨⟨rfl, rfl, rfl, Nat.le_refl _, fun _ _ => rfl⟩, (fun _ _ h => by cases h), (fun _ _ _ h => by cases h), (fun _ _ _ _ _ _ _ h => by cases h)⟩
  · intro i hik L f x w' hF hLi ⟨hB, hV, hR, hA⟩ hw hx
    have hvals : ∀ j ∈ waitsFor .any ops i, j < k → R j = none → x.tmps[lo + j]?.getD undef = V j := fun j hj hjk hrj => (hx j hjk (hw j hj)).trans (hV j hjk (hw j hj) hrj)
    have hrows : ∀ j ∈ waitsFor .any ops i, j < k → ∀ q, R j = some q → ∃ v, x.tmps[lo + j]?.getD undef = v ∧ w'.ownsRow W.heap.size q.e q.size v q.n q.xs := fun j hj hjk q hq => ⟨f j, hx j hjk (hw j hj), hR j q hjk (hw j hj) hq⟩
    cases hri : R i with
    | none =>
      refine wpOp_mono (fun x' w'' h => ?_) (hval i hik hri x w' hB hF hvals)
      obtain ⟨rfl, rfl⟩ := h
      refine ⟨V i, rfl, hB, fun n hn hL hr => ?_, fun n r hn hL hr => ?_, fun n1 n2 r s h1 h2 hne hL1 hL2 hr1 hr2 => ?_⟩
      · by_cases e : i = n
        · subst e; show (if i = i then V i else f i) = V i; rw [if_pos rfl]
        · simp only [if_neg e] at hL ⊢; exact hV n hn hL hr
      · by_cases e : i = n
        · subst e; rw [hri] at hr; cases hr
        · simp only [if_neg e] at hL ⊢; exact hR n r hn hL hr
      · by_cases e1 : i = n1
        · subst e1; rw [hri] at hr1; cases hr1
        · by_cases e2 : i = n2
          · subst e2; rw [hri] at hr2; cases hr2
          · simp only [if_neg e1, if_neg e2] at hL1 hL2 ⊢; exact hA n1 n2 r s h1 h2 hne hL1 hL2 hr1 hr2
    | some q =>
      refine wpOp_mono (fun x' w'' h => ?_) (hrow i q hik hri x w' hB hF hvals hrows)
      obtain ⟨v, rfl, hown, hb⟩ := h
      refine ⟨v, rfl, hB.trans (Below.mono hb hB.size), fun n hn hL hr => ?_, fun n r hn hL hr => ?_, fun n1 n2 r s h1 h2 hne hL1 hL2 hr1 hr2 b => ?_⟩
      · by_cases e : i = n
        · subst e; rw [hri] at hr; cases hr
        · simp only [if_neg e] at hL ⊢; exact hV n hn hL hr
      · by_cases e : i = n
        · subst e
          rw [hri] at hr
          cases hr
          show World.ownsRow w'' W.heap.size q.e q.size (if i = i then v else f i) q.n q.xs
          rw [if_pos rfl]
          exact row_base hown hB.size
        · simp only [if_neg e] at hL ⊢; exact row_below (hR n r hn hL hr) hb
      · by_cases e1 : i = n1
        · have e2 : ¬ i = n2 := fun e => hne (e1.symm.trans e)
          simp only [if_pos e1, if_neg e2] at hL2 ⊢
          intro hb1 hb2
          have := (hown.lt b hb1).1
          have := ((hR n2 s h2 hL2 hr2).lt b hb2).2
          omega
        · by_cases e2 : i = n2
          · simp only [if_neg e1, if_pos e2] at hL1 ⊢
            intro hb1 hb2
            have := (hown.lt b hb2).1
            have := ((hR n1 r h1 hL1 hr1).lt b hb1).2
            omega
          · simp only [if_neg e1, if_neg e2] at hL1 hL2 ⊢; exact hA n1 n2 r s h1 h2 hne hL1 hL2 hr1 hr2 b
/-- Two assignments behind it. -/
theorem wpOps_last2 {P : Program} {ops : Array Oper} {Q : Exit → Act → World → Prop} {lo k j1 j2 d1 d2 ty1 ty2 : Nat} {pos1 pos2 : String} {af1 af2 : Array Edge} {f : Nat → Value} {t : Array Value} {ds : List Deferred} {w : World} {v1 v2 : Value}
    (hop1 : ops[k]? = some { dst := some d1, op := .assign (.tmp (lo + j1)), type := ty1, pos := pos1, after := af1, guard := none }) (hop2 : ops[k + 1]? = some { dst := some d2, op := .assign (.tmp (lo + j2)), type := ty2, pos := pos2, after := af2, guard := none })
    (hlo : lo + k ≤ t.size) (hj1 : j1 < k) (hj2 : j2 < k) (hd : d1 < lo) (hv1 : f j1 = v1) (hv2 : f j2 = v2)
    (hQ : Q .normal ⟨((putAll lo k f t).setIfInBounds d1 v1).setIfInBounds d2 v2, ds⟩ w) : wpOps P ops Q (List.range' k 2) ⟨putAll lo k f t, ds⟩ w := by
  have e1 : (putAll lo k f t)[lo + j1]? = some v1 := by
    rw [putAll_get _ _ _ _ hlo, if_pos (by omega), Nat.add_sub_cancel_left, hv1]
  have e2 : ((putAll lo k f t).setIfInBounds d1 v1)[lo + j2]? = some v2 := by
    rw [Array.getElem?_setIfInBounds_ne (by omega), putAll_get _ _ _ _ hlo, if_pos (by omega), Nat.add_sub_cancel_left, hv2]
  show wpOps P ops Q [k, k + 1] _ w
  rw [wpOps_cons]
  refine wpOp_value (v := v1) (w' := w) hop1 rfl ?_ ?_
  · simp [execOp, Act.eval, e1]
  rw [wpOps_cons]
  refine wpOp_value (v := v2) (w' := w) hop2 rfl ?_ hQ
  simp [execOp, Act.eval, Act.put, e2]
end Go.Proofs.Ytnmdpbnddbccmaa
