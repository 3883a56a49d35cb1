/-
  CdcTells: the book's second list, what lies apart. No statement is proved here.
-/
import Derived.Test.YtkcjiogackkecaaPhase
import Derived.Test.YtkcjiogackkecaaCdcBoundsWalk
import Derived.Test.YtkcjiogackkecaaFixedTellsMid
import Derived.Test.YtkcjiogackkecaaViews
namespace Go.Proofs.Ytkcjiogackkecaa
open Go.RowKit

/-- Operations that read, and operations that make a row each; then sinks; an operation that makes a row may read rows that others made. -/
theorem wp_region_fresher {P : Program} {ops : Array Oper} {Q : Exit → Act → World → Prop} (lo k hi m : Nat) (V : Nat → Value) (R : Nat → Option Made) {id : Nat} {a : Act} {W : World}
    (hm : P.follows .mixedOrders = true) (he : early .any ops = true) (hsz : ops.size = k + m) (hm0 : 0 < m) (hsink : (List.range' k m).all (fun i => sinkL ops i) = true) (hhi : lo + k = hi + 1) (hlo : lo + k ≤ a.tmps.size)
    (hval : ∀ i, i < k → R i = none → ∀ (x : Act) (w' : World), Below W.heap.size W w' → FrameKept a lo hi x → (∀ j ∈ waitsFor .any ops i, j < k → R j = none → x.tmps[lo + j]?.getD undef = V j) → wpOp P ops Q i (fun x' w'' => x' = x.put (some (lo + i)) (V i) ∧ w' = w'') x w')
    (hrow : ∀ i r, i < k → R i = some r → ∀ (x : Act) (w' : World), Below W.heap.size W w' → FrameKept a lo hi x → (∀ j ∈ waitsFor .any ops i, j < k → R j = none → x.tmps[lo + j]?.getD undef = V j) → (∀ j ∈ waitsFor .any ops i, j < k → ∀ q, R j = some q → ∃ v, x.tmps[lo + j]?.getD undef = v ∧ w'.ownsRow W.heap.size q.e q.size v q.n q.xs) → wpOp P ops Q i (fun x' w'' => ∃ v, x' = x.put (some (lo + i)) v ∧ w''.ownsRow w'.heap.size r.e r.size v r.n r.xs ∧ Below w'.heap.size w' w'') x w')
    (hrest : ∀ (L : Nat → Bool) (f : Nat → Value) (w' : World), (∀ j, j < k → L j = true) → FreshJ W k V R L f w' → wpOps P ops Q (List.range' k m) ⟨putAll lo k f a.tmps, a.defers⟩ w') : (Code.region id ops true).wp P Q a W := by
  refine wp_region_phase lo k hi m (FreshJ W k V R) hm he hsz hm0 hsink hhi hlo ?_ ?_ hrest
  · exact ⟨⟨rfl, rfl, rfl, Nat.le_refl _, fun _ _ => rfl⟩, (fun _ _ h => by cases h), (fun _ _ _ h => by cases h), (fun _ _ _ _ _ _ _ h => by cases h)⟩
  · intro i hik L f x w' hF hLi ⟨hB, hV, hR, hA⟩ hw hx
    have hvals : ∀ j ∈ waitsFor .any ops i, j < k → R j = none → x.tmps[lo + j]?.getD undef = V j := fun j hj hjk hrj => (hx j hjk (hw j hj)).trans (hV j hjk (hw j hj) hrj)
    have hrows : ∀ j ∈ waitsFor .any ops i, j < k → ∀ q, R j = some q → ∃ v, x.tmps[lo + j]?.getD undef = v ∧ w'.ownsRow W.heap.size q.e q.size v q.n q.xs := fun j hj hjk q hq => ⟨f j, hx j hjk (hw j hj), hR j q hjk (hw j hj) hq⟩
    cases hri : R i with
    | none =>
      refine wpOp_mono (fun x' w'' h => ?_) (hval i hik hri x w' hB hF hvals)
      obtain ⟨rfl, rfl⟩ := h
      refine ⟨V i, rfl, hB, fun n hn hL hr => ?_, fun n r hn hL hr => ?_, fun n1 n2 r s h1 h2 hne hL1 hL2 hr1 hr2 => ?_⟩
      · by_cases e : i = n
        · subst e; show (if i = i then V i else f i) = V i; rw [if_pos rfl]
        · simp only [if_neg e] at hL ⊢; exact hV n hn hL hr
      · by_cases e : i = n
        · subst e; rw [hri] at hr; cases hr
        · simp only [if_neg e] at hL ⊢; exact hR n r hn hL hr
      · by_cases e1 : i = n1
        · subst e1; rw [hri] at hr1; cases hr1
        · by_cases e2 : i = n2
          · subst e2; rw [hri] at hr2; cases hr2
          · simp only [if_neg e1, if_neg e2] at hL1 hL2 ⊢; exact hA n1 n2 r s h1 h2 hne hL1 hL2 hr1 hr2
    | some q =>
      refine wpOp_mono (fun x' w'' h => ?_) (hrow i q hik hri x w' hB hF hvals hrows)
      obtain ⟨v, rfl, hown, hb⟩ := h
      refine ⟨v, rfl, hB.trans (Below.mono hb hB.size), fun n hn hL hr => ?_, fun n r hn hL hr => ?_, fun n1 n2 r s h1 h2 hne hL1 hL2 hr1 hr2 b => ?_⟩
      · by_cases e : i = n
        · subst e; rw [hri] at hr; cases hr
        · simp only [if_neg e] at hL ⊢; exact hV n hn hL hr
      · by_cases e : i = n
        · subst e
          rw [hri] at hr
          cases hr
          show World.ownsRow w'' W.heap.size q.e q.size (if i = i then v else f i) q.n q.xs
          rw [if_pos rfl]
          exact row_base hown hB.size
        · simp only [if_neg e] at hL ⊢; exact row_below (hR n r hn hL hr) hb
      · by_cases e1 : i = n1
        · have e2 : ¬ i = n2 := fun e => hne (e1.symm.trans e)
          simp only [if_pos e1, if_neg e2] at hL2 ⊢
          intro hb1 hb2
          have := (hown.lt b hb1).1
          have := ((hR n2 s h2 hL2 hr2).lt b hb2).2
          omega
        · by_cases e2 : i = n2
          · simp only [if_neg e1, if_pos e2] at hL1 ⊢
            intro hb1 hb2
            have := (hown.lt b hb2).1
            have := ((hR n1 r h1 hL1 hr1).lt b hb1).2
            omega
          · simp only [if_neg e1, if_neg e2] at hL1 hL2 ⊢; exact hA n1 n2 r s h1 h2 hne hL1 hL2 hr1 hr2 b
/-- Two assignments behind it. -/
theorem wpOps_last2 {P : Program} {ops : Array Oper} {Q : Exit → Act → World → Prop} {lo k j1 j2 d1 d2 ty1 ty2 : Nat} {pos1 pos2 : String} {af1 af2 : Array Edge} {f : Nat → Value} {t : Array Value} {ds : List Deferred} {w : World} {v1 v2 : Value}
    (hop1 : ops[k]? = some { dst := some d1, op := .assign (.tmp (lo + j1)), type := ty1, pos := pos1, after := af1, guard := none }) (hop2 : ops[k + 1]? = some { dst := some d2, op := .assign (.tmp (lo + j2)), type := ty2, pos := pos2, after := af2, guard := none })
    (hlo : lo + k ≤ t.size) (hj1 : j1 < k) (hj2 : j2 < k) (hd : d1 < lo) (hv1 : f j1 = v1) (hv2 : f j2 = v2)
    (hQ : Q .normal ⟨((putAll lo k f t).setIfInBounds d1 v1).setIfInBounds d2 v2, ds⟩ w) : wpOps P ops Q (List.range' k 2) ⟨putAll lo k f t, ds⟩ w := by
  have e1 : (putAll lo k f t)[lo + j1]? = some v1 := by
    rw [putAll_get _ _ _ _ hlo, if_pos (by omega), Nat.add_sub_cancel_left, hv1]
  have e2 : ((putAll lo k f t).setIfInBounds d1 v1)[lo + j2]? = some v2 := by
    rw [Array.getElem?_setIfInBounds_ne (by omega), putAll_get _ _ _ _ hlo, if_pos (by omega), Nat.add_sub_cancel_left, hv2]
  show wpOps P ops Q [k, k + 1] _ w
  rw [wpOps_cons]
  refine wpOp_value (v := v1) (w' := w) hop1 rfl ?_ ?_
  · simp [execOp, Act.eval, e1]
  rw [wpOps_cons]
  refine wpOp_value (v := v2) (w' := w) hop2 rfl ?_ hQ
  simp [execOp, Act.eval, Act.put, e2]
end Go.Proofs.Ytkcjiogackkecaa

namespace Go.Proofs.Ytkcjiogackkecaa
open Go.RowKit

/-- One more list, apart from the others. -/
theorem SpansAt.addOff {B g k : Nat} {ls : List LS} {w : World} (h : SpansAt B g k ls w) (l : LS) (B' : Nat) (hB : B ≤ B') (hrow : w.ownsRow B' 36 2 l.val l.xs.length (flatS l.xs)) (hnew : ∀ l' ∈ ls, ∀ b, l'.val.ownBlock = some b → l.val.ownBlock ≠ some b) (hk : k < 250) (hl : l.xs.length ≤ 900000) :
    Calls Try.prog 26 #[.pointer (some ⟨g, 0, none⟩), l.val] w fun e w' => e = .returned (.tuple #[]) ∧ SpansAt B g (k + 1) (ls ++ [l]) w' ∧ Below B w w' ∧ BookLeavesS w w' := by
  obtain ⟨p, cp, q, cq, us, h1, h2, h3, h4, h5, h6, h7, h8, h9, h10⟩ := h
  have hrow' := hrow
  obtain ⟨A, c, xs⟩ := l
  obtain ⟨p', cap', hv, -, -, hA0, hAs⟩ := krow_form hrow
  unfold LS.val at hv
  simp only at hv
  injection hv with e1 _ e3
  have hA : ∀ b off, A = some ⟨b, off, none⟩ → (LS.mk A c xs).val.ownBlock = some b := fun b off e => by
    unfold LS.val
    rw [e]
    rfl
  have hc0 : A = none → c = 0 := fun e => by
    rcases hrow.2 with ⟨h, _⟩ | ⟨g', cap2, cur, h, _⟩
    · unfold LS.val at h
      injection h with _ _ h
    · unfold LS.val at h
      simp only [e] at h
      injection h with h
      cases h
  refine (sadd_any g B k cp cq p q ls us ⟨A, c, xs⟩ w h1 h2 h3 h4 h5 hk (row_spans (base := B') hrow) hc0 hl (fun b off e => ⟨fun e' => row_apart h3 hrow (by decide) e' (hA b off e), fun e' => row_apart h4 hrow (by decide) e' (hA b off e), fun e' => row_off hrow h1 (by decide) (by rw [← e']; exact hA b off e)⟩)).mono ?_
  rintro e w' ⟨rfl, p2, cp2, q2, cq2, u, k1, k2, k3, k4, k5, k6, k7, k8⟩
  have hleave : BookLeavesS w w' := fun b t cs hb ht1 ht2 => by
    refine Eq.trans (k8 b hb.lt (fun e => ?_) (fun e => row_off h3 hb (fun e => ht1 e.symm) e) (fun e => row_off h4 hb (fun e => ht1 e.symm) e)) hb
    subst e
    have h1 : w.heap[b]? = _ := h1
    have hb : w.heap[b]? = _ := hb
    rw [h1] at hb
    injection hb with hb
    injection hb with _ hb _
    exact ht2 hb.symm
  have hint : (36 : TypeId) ≠ 33 := by decide
  have hint2 : (36 : TypeId) ≠ 61 := by decide
  refine ⟨rfl, ⟨p2, cp2, q2, cq2, us ++ [u], k1, h2, k2, k3, k4, by rw [List.length_append, h6]; rfl, by rw [List.length_append, h7]; rfl, ⟨fun i z hz => ?_, fun i j z z' b hz hz' hne hb => ?_⟩, fun z hz => ?_, fun i z y hz hy => ?_⟩, k7, hleave⟩
  · rcases Nat.lt_or_ge i ls.length with hi | hi
    · rw [List.getElem?_append_left hi] at hz
      exact hleave.row (h8.own i z hz) hint hint2
    · rw [List.getElem?_append_right hi] at hz
      cases hd : i - ls.length with
      | zero =>
        rw [hd] at hz
        injection hz with hz
        subst hz
        exact row_lower (hleave.row hrow' hint hint2) hB
      | succ d => rw [hd] at hz; simp at hz
  · have old : ∀ (i : Nat) (z : LS), (ls ++ [LS.mk A c xs])[i]? = some z → (i < ls.length ∧ ls[i]? = some z) ∨ (i = ls.length ∧ z = LS.mk A c xs) := fun i z hz => by
      rcases Nat.lt_or_ge i ls.length with hi | hi
      · rw [List.getElem?_append_left hi] at hz
        exact .inl ⟨hi, hz⟩
      · rw [List.getElem?_append_right hi] at hz
        cases hd : i - ls.length with
        | zero =>
          rw [hd] at hz
          injection hz with hz
          exact .inr ⟨by omega, hz.symm⟩
        | succ d => rw [hd] at hz; simp at hz
    rcases old i z hz with ⟨hi, hz⟩ | ⟨hi, rfl⟩
    · rcases old j z' hz' with ⟨hj, hz'⟩ | ⟨hj, rfl⟩
      · exact h8.apart i j z z' b hz hz' hne hb
      · intro e
        exact hnew z (List.mem_of_getElem? hz) b hb e
    · rcases old j z' hz' with ⟨hj, hz'⟩ | ⟨hj, rfl⟩
      · intro e
        exact hnew z' (List.mem_of_getElem? hz') b e hb
      · omega
  · rcases List.mem_append.1 hz with hz | hz
    · exact h9 z hz
    · rw [List.mem_singleton.1 hz]; exact hl
  · rcases Nat.lt_or_ge i ls.length with hi | hi
    · rw [List.getElem?_append_left hi] at hz
      rw [List.getElem?_append_left (by omega)] at hy
      obtain ⟨e1, e2⟩ := h10 i z y hz hy
      exact ⟨e1, hleave.row e2 hint hint2⟩
    · rw [List.getElem?_append_right hi] at hz
      rw [List.getElem?_append_right (by omega)] at hy
      rw [show i - us.length = i - ls.length by omega] at hy
      cases hd : i - ls.length with
      | zero =>
        rw [hd] at hz hy
        injection hz with hz
        injection hy with hy
        subst hz hy
        exact ⟨k5.symm, row_lower k6 (Nat.le_trans h2 (Nat.le_of_lt h1.lt))⟩
      | succ d => rw [hd] at hz; simp at hz
theorem al_list (xs : List ByteArray) : cats [joined xs] = cats xs := by rw [cat1]; rfl
theorem own_one (w : World) (x : ByteArray) : (w.alloc (.cells #[.string x] 9)).ownsRow w.heap.size 9 1 (.slice (some ⟨w.heap.size, 0, none⟩) 1 1) 1 [.string x] :=
  ⟨rfl, .inr ⟨w.heap.size, 1, #[.string x], rfl, Nat.le_refl _, Blk.new w _ _, Nat.le_refl _, by decide, rfl, rfl⟩⟩
end Go.Proofs.Ytkcjiogackkecaa
