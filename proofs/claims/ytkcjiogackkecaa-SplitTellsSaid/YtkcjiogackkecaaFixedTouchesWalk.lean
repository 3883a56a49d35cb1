/-
  FixedTouches, walked. No statement is proved here.
-/
import Derived.Test.YtkcjiogackkecaaFixedAlive
import Derived.Test.YtkcjiogackkecaaIntsView
namespace Go.Proofs.Ytkcjiogackkecaa
open Go.RowKit

theorem wend_step {l : List (Int × Int)} {E : Int} (h : wholeEnd l = some E) {k : Nat} {p : Int × Int} (hp : l[k]? = some p) : wholeEnd (l.take k) = some p.1 ∧ p.1 < p.2 ∧ wholeEnd (l.take (k + 1)) = some p.2 := by
  have hs := wholeEnd_snoc hp
  cases ha : wholeEnd (l.take k) with
  | none => rw [wholeEnd_none ha] at h; cases h
  | some a =>
    rw [ha] at hs
    unfold wstep at hs
    simp only [Option.bind_some] at hs
    by_cases hc : p.1 ≠ a ∨ p.2 ≤ a
    · rw [if_pos hc] at hs
      rw [wholeEnd_none hs] at h
      cases h
    · rw [if_neg hc] at hs
      have e : p.1 = a := by omega
      subst e
      exact ⟨rfl, by omega, hs⟩
theorem wend_mono {l : List (Int × Int)} {E : Int} (h : wholeEnd l = some E) (d : Nat) : ∀ (k : Nat) (a a' : Int), k + d ≤ l.length → wholeEnd (l.take k) = some a → wholeEnd (l.take (k + d)) = some a' → a ≤ a' := by
  induction d with
  | zero => intro k a a' _ h1 h2; rw [Nat.add_zero, h1] at h2; injection h2 with h2; omega
  | succ d ih =>
    intro k a a' hl h1 h2
    obtain ⟨p, hp⟩ : ∃ p, l[k + d]? = some p := ⟨l[k + d]'(by omega), List.getElem?_eq_getElem _⟩
    obtain ⟨e1, e2, e3⟩ := wend_step h hp
    have := ih k a p.1 (by omega) h1 e1
    rw [show k + (d + 1) = k + d + 1 by omega, e3] at h2
    injection h2 with h2
    omega
theorem whole_mono {l : List (Int × Int)} {E : Int} (h : wholeEnd l = some E) {k k' : Nat} {p p' : Int × Int} (hk : k < k') (hp : l[k]? = some p) (hp' : l[k']? = some p') : p.2 ≤ p'.1 := by
  have hl : k' < l.length := by
    rcases Nat.lt_or_ge k' l.length with h | h
    · exact h
    · rw [List.getElem?_eq_none h] at hp'; cases hp'
  obtain ⟨_, _, e3⟩ := wend_step h hp
  obtain ⟨e1, _, _⟩ := wend_step h hp'
  exact wend_mono h (k' - (k + 1)) (k + 1) _ _ (by omega) e3 (by rw [show k + 1 + (k' - (k + 1)) = k' by omega]; exact e1)
/-- Of spans that are whole just those between what Touch tells are touched. -/
theorem touch_mem {l : List (Int × Int)} {E a b : Int} (h : wholeEnd l = some E) {j : Nat} {x0 x1 : Int} (hj : l[j]? = some (x0, x1)) :
    (a < b ∧ x0 < b ∧ a < x1) ↔ ((touchTo l a b l.length).1 ≤ (j : Int) ∧ (j : Int) < (touchTo l a b l.length).2) := by
  have hlt : j < l.length := by
    rcases Nat.lt_or_ge j l.length with h | h
    · exact h
    · rw [List.getElem?_eq_none h] at hj; cases hj
  have hx := (wend_step h hj).2.1
  simp only at hx
  have ht : touchedB a b (x0, x1) = true ↔ (a < b ∧ x0 < b ∧ a < x1) := by
    unfold touchedB
    simp only [decide_eq_true_eq]
    omega
  rcases touch_inv l a b l.length (Nat.le_refl _) with ⟨h1, h2⟩ | ⟨f, e, h1, h2, h3, h4, h5, h6, h7⟩
  · rw [h1]
    simp only
    constructor
    · intro hh
      have := h2 j _ hlt hj
      rw [ht.2 hh] at this
      cases this
    · intro hh; omega
  · rw [h1]
    simp only
    obtain ⟨⟨f0, f1⟩, hf⟩ : ∃ p, l[f]? = some p := ⟨l[f]'(by omega), List.getElem?_eq_getElem _⟩
    obtain ⟨⟨g0, g1⟩, hg⟩ : ∃ p, l[e]? = some p := ⟨l[e]'(by omega), List.getElem?_eq_getElem _⟩
    have tf := h4 _ hf
    have te := h5 _ hg
    unfold touchedB at tf te
    simp only [decide_eq_true_eq] at tf te
    constructor
    · intro hh
      constructor
      · rcases Nat.lt_or_ge j f with hc | hc
        · have := h6 j _ hc hj; rw [ht.2 hh] at this; cases this
        · omega
      · rcases Nat.lt_or_ge e j with hc | hc
        · have := h7 j _ hc hlt hj; rw [ht.2 hh] at this; cases this
        · omega
    · rintro ⟨k1, k2⟩
      refine ⟨by omega, ?_, ?_⟩
      · rcases Nat.lt_or_ge j e with hc | hc
        · have := whole_mono h hc hj hg; simp only at this; omega
        · obtain rfl : j = e := by omega
          rw [hj] at hg; cases hg; omega
      · rcases Nat.lt_or_ge f j with hc | hc
        · have := whole_mono h hc hf hj; simp only at this; omega
        · obtain rfl : j = f := by omega
          rw [hj] at hf; cases hf; omega
theorem touch_none (l : List (Int × Int)) (a b : Int) (h : ¬ (touchTo l a b l.length).1 < (touchTo l a b l.length).2) : touchTo l a b l.length = (0, 0) := by
  rcases touch_inv l a b l.length (Nat.le_refl _) with ⟨h1, _⟩ | ⟨f, e, h1, h2, _⟩
  · exact h1
  · rw [h1] at h; simp only at h; omega

end Go.Proofs.Ytkcjiogackkecaa
