/-
  The order of fingerprints, as numbers. No statement is proved here.
-/
import Derived.Test.YtpliknofjgbfjaaDoorMarkPure
namespace Go.Proofs.YtpliknofjgbfjaaDoor

theorem cmpB_range (a b : List UInt8) : Lib.compareBytes a b = -1 ∨ Lib.compareBytes a b = 0 ∨ Lib.compareBytes a b = 1 := by
  induction a generalizing b with
  | nil => cases b <;> simp [Lib.compareBytes]
  | cons x a ih =>
    cases b with
    | nil => simp [Lib.compareBytes]
    | cons y b =>
      simp only [Lib.compareBytes]
      split
      · simp
      · split
        · simp
        · exact ih b
theorem cmpB_swap (a b : List UInt8) : Lib.compareBytes b a = - Lib.compareBytes a b := by
  induction a generalizing b with
  | nil => cases b <;> simp [Lib.compareBytes]
  | cons x a ih =>
    cases b with
    | nil => simp [Lib.compareBytes]
    | cons y b =>
      simp only [Lib.compareBytes]
      by_cases h1 : x < y
      · have h2 : ¬ y < x := by rw [UInt8.lt_iff_toNat_lt] at *; omega
        rw [if_neg h2, if_pos h1, if_pos h1]; rfl
      · by_cases h2 : y < x
        · rw [if_pos h2, if_neg h1, if_pos h2]
        · rw [if_neg h2, if_neg h1, if_neg h1, if_neg h2]; exact ih b
theorem cmpB_zero (a b : List UInt8) : Lib.compareBytes a b = 0 ↔ a = b := by
  induction a generalizing b with
  | nil => cases b <;> simp [Lib.compareBytes]
  | cons x a ih =>
    cases b with
    | nil => simp [Lib.compareBytes]
    | cons y b =>
      simp only [Lib.compareBytes, List.cons.injEq]
      by_cases h1 : x < y
      · rw [if_pos h1]
        constructor
        · intro h; omega
        · rintro ⟨rfl, _⟩; rw [UInt8.lt_iff_toNat_lt] at h1; omega
      · rw [if_neg h1]
        by_cases h2 : y < x
        · rw [if_pos h2]
          constructor
          · intro h; omega
          · rintro ⟨rfl, _⟩; rw [UInt8.lt_iff_toNat_lt] at h2; omega
        · rw [if_neg h2, ih b]
          have : x = y := by rw [UInt8.lt_iff_toNat_lt] at *; exact UInt8.toNat_inj.1 (by omega)
          simp [this]
theorem cmpB_trans (a b c : List UInt8) (h1 : Lib.compareBytes a b ≤ 0) (h2 : Lib.compareBytes b c ≤ 0) : Lib.compareBytes a c ≤ 0 := by
  induction a generalizing b c with
  | nil => cases c <;> simp [Lib.compareBytes]
  | cons x a ih =>
    cases b with
    | nil => simp [Lib.compareBytes] at h1
    | cons y b =>
      cases c with
      | nil => simp [Lib.compareBytes] at h2
      | cons z c =>
        simp only [Lib.compareBytes] at h1 h2 ⊢
        by_cases e1 : x < y
        · by_cases e2 : y < z
          · have : x < z := by rw [UInt8.lt_iff_toNat_lt] at *; omega
            rw [if_pos this]; omega
          · rw [if_neg e2] at h2
            by_cases e3 : z < y
            · rw [if_pos e3] at h2; omega
            · have : x < z := by rw [UInt8.lt_iff_toNat_lt] at *; omega
              rw [if_pos this]; omega
        · rw [if_neg e1] at h1
          by_cases e4 : y < x
          · rw [if_pos e4] at h1; omega
          · rw [if_neg e4] at h1
            have hxy : x = y := by rw [UInt8.lt_iff_toNat_lt] at *; exact UInt8.toNat_inj.1 (by omega)
            subst hxy
            by_cases e2 : x < z
            · rw [if_pos e2]; omega
            · rw [if_neg e2] at h2 ⊢
              by_cases e3 : z < x
              · rw [if_pos e3] at h2; omega
              · rw [if_neg e3] at h2 ⊢
                exact ih b c h1 h2
theorem cmpI_cases (x y : Int) : (x < y ∧ Lib.compareInt x y = -1) ∨ (x = y ∧ Lib.compareInt x y = 0) ∨ (y < x ∧ Lib.compareInt x y = 1) := by
  unfold Lib.compareInt
  by_cases h1 : x < y
  · rw [if_pos h1]; exact .inl ⟨h1, rfl⟩
  · by_cases h2 : y < x
    · rw [if_neg h1, if_pos h2]; exact .inr (.inr ⟨h2, rfl⟩)
    · rw [if_neg h1, if_neg h2]; exact .inr (.inl ⟨by omega, rfl⟩)
/-- What stands between two prints: by kind, or by bytes. -/
theorem cmpK_cases (k : Int) (s : ByteArray) (l : Int) (t : ByteArray) : (k < l ∧ cmpK k s l t = -1) ∨ (k = l ∧ cmpK k s l t = Lib.compareBytes s.data.toList t.data.toList) ∨ (l < k ∧ cmpK k s l t = 1) := by
  unfold cmpK
  rcases cmpI_cases k l with ⟨h1, h2⟩ | ⟨h1, h2⟩ | ⟨h1, h2⟩ <;> rw [h2]
  · exact .inl ⟨h1, by rw [if_pos (by omega)]⟩
  · exact .inr (.inl ⟨h1, by rw [if_neg (by omega)]⟩)
  · exact .inr (.inr ⟨h1, by rw [if_pos (by omega)]⟩)
theorem cmpK_range (k : Int) (s : ByteArray) (l : Int) (t : ByteArray) : cmpK k s l t = -1 ∨ cmpK k s l t = 0 ∨ cmpK k s l t = 1 := by
  have h := cmpB_range s.data.toList t.data.toList
  rcases cmpK_cases k s l t with ⟨_, h2⟩ | ⟨_, h2⟩ | ⟨_, h2⟩ <;> omega
theorem cmpK_swap (k : Int) (s : ByteArray) (l : Int) (t : ByteArray) : cmpK l t k s = - cmpK k s l t := by
  have h := cmpB_swap s.data.toList t.data.toList
  rcases cmpK_cases k s l t with ⟨h1, h2⟩ | ⟨h1, h2⟩ | ⟨h1, h2⟩ <;> rcases cmpK_cases l t k s with ⟨h3, h4⟩ | ⟨h3, h4⟩ | ⟨h3, h4⟩ <;> omega
theorem bytes_eq {s t : ByteArray} : s.data.toList = t.data.toList ↔ s = t :=
  ⟨fun h => ByteArray.ext (Array.toList_inj.1 h), fun h => by rw [h]⟩
theorem cmpK_zero (k : Int) (s : ByteArray) (l : Int) (t : ByteArray) : cmpK k s l t = 0 ↔ k = l ∧ s = t := by
  have h := (cmpB_zero s.data.toList t.data.toList).trans bytes_eq
  rcases cmpK_cases k s l t with ⟨h1, h2⟩ | ⟨h1, h2⟩ | ⟨h1, h2⟩ <;> rw [h2]
  · constructor
    · intro h; omega
    · rintro ⟨rfl, _⟩; omega
  · rw [h]; simp [h1]
  · constructor
    · intro h; omega
    · rintro ⟨rfl, _⟩; omega
theorem cmpK_trans {k : Int} {s : ByteArray} {l : Int} {t : ByteArray} {m : Int} {u : ByteArray} (h1 : cmpK k s l t ≤ 0) (h2 : cmpK l t m u ≤ 0) : cmpK k s m u ≤ 0 := by
  have h := cmpB_trans s.data.toList t.data.toList u.data.toList
  rcases cmpK_cases k s l t with ⟨a1, a2⟩ | ⟨a1, a2⟩ | ⟨a1, a2⟩ <;> rcases cmpK_cases l t m u with ⟨b1, b2⟩ | ⟨b1, b2⟩ | ⟨b1, b2⟩ <;> rcases cmpK_cases k s m u with ⟨c1, c2⟩ | ⟨c1, c2⟩ | ⟨c1, c2⟩ <;> first | omega | (rw [c2]; exact h (by omega) (by omega))
theorem cmpK_trans' {k : Int} {s : ByteArray} {l : Int} {t : ByteArray} {m : Int} {u : ByteArray} (h1 : 0 ≤ cmpK k s l t) (h2 : 0 ≤ cmpK l t m u) : 0 ≤ cmpK k s m u := by
  have e1 := cmpK_swap k s l t
  have e2 := cmpK_swap l t m u
  have e3 := cmpK_swap k s m u
  have := cmpK_trans (k := m) (s := u) (l := l) (t := t) (m := k) (u := s) (by omega) (by omega)
  omega
end Go.Proofs.YtpliknofjgbfjaaDoor
