/-
  CdcTells: the book's second list, what lies apart. No statement is proved here.
-/
import Derived.Test.YtnmdpbnddbccmaaCdcBoundsWalk
import Derived.Test.YtnmdpbnddbccmaaFixedTellsMid
import Derived.Test.YtnmdpbnddbccmaaFreshMore
import Derived.Test.YtnmdpbnddbccmaaViews
namespace Go.Proofs.Ytnmdpbnddbccmaa
open Go.RowKit

/-- One more list, apart from the others. -/
theorem SpansAt.addOff {B g k : Nat} {ls : List LS} {w : World} (h : SpansAt B g k ls w) (l : LS) (B' : Nat) (hB : B ≤ B') (hrow : w.ownsRow B' 52 2 l.val l.xs.length (flatS l.xs)) (hnew : ∀ l' ∈ ls, ∀ b, l'.val.ownBlock = some b → l.val.ownBlock ≠ some b) (hk : k < 250) (hl : l.xs.length ≤ 900000) :
    Calls Try.prog 14 #[.pointer (some ⟨g, 0, none⟩), l.val] w fun e w' => e = .returned (.tuple #[]) ∧ SpansAt B g (k + 1) (ls ++ [l]) w' ∧ Below B w w' ∧ BookLeavesS w w' := by
  obtain ⟨p, cp, q, cq, us, h1, h2, h3, h4, h5, h6, h7, h8, h9, h10⟩ := h
  have hrow' := hrow
  obtain ⟨A, c, xs⟩ := l
  obtain ⟨p', cap', hv, -, -, hA0, hAs⟩ := krow_form hrow
  unfold LS.val at hv
  simp only at hv
  injection hv with e1 _ e3
  have hA : ∀ b off, A = some ⟨b, off, none⟩ → (LS.mk A c xs).val.ownBlock = some b := fun b off e => by
    unfold LS.val
    rw [e]
    rfl
  have hc0 : A = none → c = 0 := fun e => by
    rcases hrow.2 with ⟨h, _⟩ | ⟨g', cap2, cur, h, _⟩
    · unfold LS.val at h
      injection h with _ _ h
    · unfold LS.val at h
      simp only [e] at h
      injection h with h
      cases h
  refine (sadd_any g B k cp cq p q ls us ⟨A, c, xs⟩ w h1 h2 h3 h4 h5 hk (row_spans (base := B') hrow) hc0 hl (fun b off e => ⟨fun e' => row_apart h3 hrow (by decide) e' (hA b off e), fun e' => row_apart h4 hrow (by decide) e' (hA b off e), fun e' => row_off hrow h1 (by decide) (by rw [← e']; exact hA b off e)⟩)).mono ?_
  rintro e w' ⟨rfl, p2, cp2, q2, cq2, u, k1, k2, k3, k4, k5, k6, k7, k8⟩
  have hleave : BookLeavesS w w' := fun b t cs hb ht1 ht2 => by
    refine Eq.trans (k8 b hb.lt (fun e => ?_) (fun e => row_off h3 hb (fun e => ht1 e.symm) e) (fun e => row_off h4 hb (fun e => ht1 e.symm) e)) hb
    subst e
    have h1 : w.heap[b]? = _ := h1
    have hb : w.heap[b]? = _ := hb
    rw [h1] at hb
    injection hb with hb
    injection hb with _ hb _
    exact ht2 hb.symm
  have hint : (52 : TypeId) ≠ 42 := by decide
  have hint2 : (52 : TypeId) ≠ 41 := by decide
  refine ⟨rfl, ⟨p2, cp2, q2, cq2, us ++ [u], k1, h2, k2, k3, k4, by rw [List.length_append, h6]; rfl, by rw [List.length_append, h7]; rfl, ⟨fun i z hz => ?_, fun i j z z' b hz hz' hne hb => ?_⟩, fun z hz => ?_, fun i z y hz hy => ?_⟩, k7, hleave⟩
  · rcases Nat.lt_or_ge i ls.length with hi | hi
    · rw [List.getElem?_append_left hi] at hz
      exact hleave.row (h8.own i z hz) hint hint2
    · rw [List.getElem?_append_right hi] at hz
      cases hd : i - ls.length with
      | zero =>
        rw [hd] at hz
        injection hz with hz
        subst hz
        exact row_lower (hleave.row hrow' hint hint2) hB
      | succ d => rw [hd] at hz; simp at hz
  · have old : ∀ (i : Nat) (z : LS), (ls ++ [LS.mk A c xs])[i]? = some z → (i < ls.length ∧ ls[i]? = some z) ∨ (i = ls.length ∧ z = LS.mk A c xs) := fun i z hz => by
      rcases Nat.lt_or_ge i ls.length with hi | hi
      · rw [List.getElem?_append_left hi] at hz
        exact .inl ⟨hi, hz⟩
      · rw [List.getElem?_append_right hi] at hz
        cases hd : i - ls.length with
        | zero =>
          rw [hd] at hz
          injection hz with hz
          exact .inr ⟨by omega, hz.symm⟩
        | succ d => rw [hd] at hz; simp at hz
    rcases old i z hz with ⟨hi, hz⟩ | ⟨hi, rfl⟩
    · rcases old j z' hz' with ⟨hj, hz'⟩ | ⟨hj, rfl⟩
      · exact h8.apart i j z z' b hz hz' hne hb
      · intro e
        exact hnew z (List.mem_of_getElem? hz) b hb e
    · rcases old j z' hz' with ⟨hj, hz'⟩ | ⟨hj, rfl⟩
      · intro e
        exact hnew z' (List.mem_of_getElem? hz') b e hb
      · omega
  · rcases List.mem_append.1 hz with hz | hz
    · exact h9 z hz
    · rw [List.mem_singleton.1 hz]; exact hl
  · rcases Nat.lt_or_ge i ls.length with hi | hi
    · rw [List.getElem?_append_left hi] at hz
      rw [List.getElem?_append_left (by omega)] at hy
      obtain ⟨e1, e2⟩ := h10 i z y hz hy
      exact ⟨e1, hleave.row e2 hint hint2⟩
    · rw [List.getElem?_append_right hi] at hz
      rw [List.getElem?_append_right (by omega)] at hy
      rw [show i - us.length = i - ls.length by omega] at hy
      cases hd : i - ls.length with
      | zero =>
        rw [hd] at hz hy
        injection hz with hz
        injection hy with hy
        subst hz hy
        exact ⟨k5.symm, row_lower k6 (Nat.le_trans h2 (Nat.le_of_lt h1.lt))⟩
      | succ d => rw [hd] at hz; simp at hz
theorem al_list (xs : List ByteArray) : cats [joined xs] = cats xs := by rw [cat1]; rfl
theorem own_one (w : World) (x : ByteArray) : (w.alloc (.cells #[.string x] 9)).ownsRow w.heap.size 9 1 (.slice (some ⟨w.heap.size, 0, none⟩) 1 1) 1 [.string x] :=
  ⟨rfl, .inr ⟨w.heap.size, 1, #[.string x], rfl, Nat.le_refl _, Blk.new w _ _, Nat.le_refl _, by decide, rfl, rfl⟩⟩
end Go.Proofs.Ytnmdpbnddbccmaa
