/-
  Numbers put one by one, each once, are the sorted ones with no two alike. No statement is proved here.
-/
import Derived.Test.YtbaanoomilohhaaGreatDoorHeadPure
import Derived.Test.YtbaanoomilohhaaGreatDoorHeadNextOwn
namespace Go.Proofs.YtbaanoomilohhaaGreatDoor

def putL (x : Int) : List Int → List Int
  | [] => [x]
  | y :: r => if y < x then y :: putL x r else if y = x then y :: r else x :: y :: r
theorem putL_mem (x z : Int) : ∀ l : List Int, z ∈ putL x l ↔ z = x ∨ z ∈ l
  | [] => by simp [putL]
  | y :: r => by
    unfold putL
    split
    · rw [List.mem_cons, putL_mem x z r, List.mem_cons]
      constructor
      · rintro (h | h | h)
        · exact .inr (.inl h)
        · exact .inl h
        · exact .inr (.inr h)
      · rintro (h | h | h)
        · exact .inr (.inl h)
        · exact .inl h
        · exact .inr (.inr h)
    · split
      · rename_i h
        subst h
        simp
      · simp
theorem putL_strict (x : Int) : ∀ l : List Int, l.Pairwise (· < ·) → (putL x l).Pairwise (· < ·)
  | [], _ => by simp [putL]
  | y :: r, h => by
    rw [List.pairwise_cons] at h
    unfold putL
    split
    · rename_i hyx
      rw [List.pairwise_cons]
      refine ⟨fun z hz => ?_, putL_strict x r h.2⟩
      rcases (putL_mem x z r).1 hz with rfl | hz
      · exact hyx
      · exact h.1 z hz
    · split
      · rw [List.pairwise_cons]; exact h
      · rename_i h1 h2
        rw [List.pairwise_cons]
        refine ⟨fun z hz => ?_, by rw [List.pairwise_cons]; exact h⟩
        rcases List.mem_cons.1 hz with rfl | hz
        · omega
        · have := h.1 z hz
          omega
/-- Lists that rise strictly and have the same members are the same. -/
theorem strict_ext : ∀ (a b : List Int), a.Pairwise (· < ·) → b.Pairwise (· < ·) → (∀ x, x ∈ a ↔ x ∈ b) → a = b
  | [], [], _, _, _ => rfl
  | [], y :: r, _, _, h => by have := (h y).2 (by simp); cases this
  | x :: l, [], _, _, h => by have := (h x).1 (by simp); cases this
  | x :: l, y :: r, ha, hb, h => by
    rw [List.pairwise_cons] at ha hb
    have hxy : x = y := by
      rcases List.mem_cons.1 ((h x).1 (by simp)) with e | e
      · exact e
      · rcases List.mem_cons.1 ((h y).2 (by simp)) with e' | e'
        · exact e'.symm
        · have h1 := hb.1 x e
          have h2 := ha.1 y e'
          omega
    subst hxy
    congr 1
    refine strict_ext l r ha.2 hb.2 fun z => ⟨fun hz => ?_, fun hz => ?_⟩
    · rcases List.mem_cons.1 ((h z).1 (by simp [hz])) with e | e
      · have := ha.1 z hz
        omega
      · exact e
    · rcases List.mem_cons.1 ((h z).2 (by simp [hz])) with e | e
      · have := hb.1 z hz
        omega
      · exact e
theorem putAll_spec (l : List Int) : ∀ (acc : List Int), acc.Pairwise (· < ·) → (l.foldl (fun a x => putL x a) acc).Pairwise (· < ·) ∧ ∀ z, z ∈ l.foldl (fun a x => putL x a) acc ↔ z ∈ acc ∨ z ∈ l := by
  induction l with
  | nil => intro acc h; exact ⟨h, fun z => by simp⟩
  | cons x r ih =>
    intro acc h
    obtain ⟨h1, h2⟩ := ih (putL x acc) (putL_strict x acc h)
    refine ⟨h1, fun z => ?_⟩
    rw [List.foldl_cons, h2 z, putL_mem, List.mem_cons]
    constructor
    · rintro ((h | h) | h)
      · exact .inr (.inl h)
      · exact .inl h
      · exact .inr (.inr h)
    · rintro (h | h | h)
      · exact .inl (.inr h)
      · exact .inl (.inl h)
      · exact .inr h
end Go.Proofs.YtbaanoomilohhaaGreatDoor

namespace Go.Proofs.YtbaanoomilohhaaGreatDoor

theorem keeps_strict {s : List Int} (hs : s.Pairwise (fun x y => decide (x ≤ y) = true)) : ∀ m, m ≤ s.length →
    (Lib.compactUpTo s.toArray m).Pairwise (· < ·) ∧ (∀ y ∈ Lib.compactUpTo s.toArray m, ∃ k, k < m ∧ s[k]? = some y) ∧ (∀ k, k < m → ∀ y, s[k]? = some y → y ∈ Lib.compactUpTo s.toArray m) := by
  intro m
  induction m with
  | zero => intro _; exact ⟨List.Pairwise.nil, (fun y hy => by cases hy), (fun k h => by omega)⟩
  | succ m ih =>
    intro hm
    obtain ⟨h1, h2, h3⟩ := ih (by omega)
    rw [Lib.compactUpTo_succ]
    have hx : s[m]? = some s[m] := List.getElem?_eq_getElem (by omega)
    have hget : s.toArray[m]! = s[m] := by rw [getElem!_pos s.toArray m (by simpa using by omega)]; simp
    have hle : ∀ k (hk : k < m), s[k]'(by omega) ≤ s[m] := fun k hk => by
      have := List.pairwise_iff_getElem.1 hs k m (by omega) (by omega) hk
      simpa using this
    have hprev : 0 < m → s.toArray[m - 1]! = s[m - 1]'(by omega) := fun _ => by rw [getElem!_pos s.toArray (m - 1) (by simpa using by omega)]; simp
    by_cases hkp : Lib.keeps s.toArray m = true
    · rw [if_pos hkp, hget]
      refine ⟨List.pairwise_append.2 ⟨h1, List.pairwise_singleton _ _, fun y hy z hz => ?_⟩, fun y hy => ?_, fun k hk y hy => ?_⟩
      · rw [List.mem_singleton.1 hz]
        obtain ⟨k, hk, hky⟩ := h2 y hy
        have hm0 : 0 < m := by omega
        unfold Lib.keeps at hkp
        have hkp := of_decide_eq_true hkp
        rcases hkp with hkp | hkp
        · omega
        · rw [hget, hprev hm0] at hkp
          have h5 := hle (m - 1) (by omega)
          have h6 : y ≤ s[m - 1]'(by omega) := by
            have hkk : s[k]'(by omega) = y := by
              rw [List.getElem?_eq_getElem (by omega)] at hky
              exact Option.some.inj hky
            rcases Nat.lt_or_ge k (m - 1) with h7 | h7
            · have := List.pairwise_iff_getElem.1 hs k (m - 1) (by omega) (by omega) h7
              rw [hkk] at this
              simpa using this
            · have : k = m - 1 := by omega
              subst this
              omega
          omega
      · rcases List.mem_append.1 hy with hy | hy
        · obtain ⟨k, hk, hky⟩ := h2 y hy
          exact ⟨k, by omega, hky⟩
        · have := List.mem_singleton.1 hy
          subst this
          exact ⟨m, by omega, hx⟩
      · rcases Nat.lt_or_ge k m with h7 | h7
        · exact List.mem_append_left _ (h3 k h7 y hy)
        · obtain rfl : k = m := by omega
          rw [hx] at hy
          injection hy with hy
          rw [← hy]
          exact List.mem_append_right _ (List.mem_singleton.2 rfl)
    · rw [if_neg hkp, List.append_nil]
      refine ⟨h1, fun y hy => ?_, fun k hk y hy => ?_⟩
      · obtain ⟨k, hk, hky⟩ := h2 y hy
        exact ⟨k, by omega, hky⟩
      · rcases Nat.lt_or_ge k m with h7 | h7
        · exact h3 k h7 y hy
        · obtain rfl : k = m := by omega
          unfold Lib.keeps at hkp
          have hkp : ¬ (k = 0 ∨ s.toArray[k]! ≠ s.toArray[k - 1]!) := fun h => hkp (decide_eq_true h)
          have hk0 : 0 < k := by
            rcases Nat.eq_zero_or_pos k with h | h
            · exact absurd (Or.inl h) hkp
            · exact h
          have heq : s[k] = s[k - 1]'(by omega) := by
            rw [hget, hprev hk0] at hkp
            exact Classical.byContradiction fun h => hkp (.inr h)
          rw [hx] at hy
          injection hy with hy
          rw [← hy, heq]
          exact h3 (k - 1) (by omega) _ (List.getElem?_eq_getElem (by omega))
theorem putOnce_spec (l : List Int) : (putOnce l).Pairwise (· < ·) ∧ ∀ z, z ∈ putOnce l ↔ z ∈ l := by
  have hp : (l.mergeSort fun x y => decide (x ≤ y)).Pairwise (fun x y => decide (x ≤ y) = true) := List.pairwise_mergeSort (by intro a b c h1 h2; simp at *; omega) (by intro a b; simp; omega) l
  obtain ⟨h1, h2, h3⟩ := keeps_strict hp _ (Nat.le_refl _)
  refine ⟨h1, fun z => ⟨fun hz => ?_, fun hz => ?_⟩⟩
  · obtain ⟨k, _, hk⟩ := h2 z hz
    exact List.mem_mergeSort.1 (List.mem_of_getElem? hk)
  · obtain ⟨k, hk⟩ := List.mem_iff_getElem?.1 (List.mem_mergeSort.2 hz : z ∈ l.mergeSort fun x y => decide (x ≤ y))
    refine h3 k ?_ z hk
    rcases Nat.lt_or_ge k (l.mergeSort fun x y => decide (x ≤ y)).length with h | h
    · exact h
    · rw [List.getElem?_eq_none h] at hk; cases hk
theorem putAll_once (l : List Int) : l.foldl (fun a x => putL x a) [] = putOnce l := by
  obtain ⟨h1, h2⟩ := putAll_spec l [] List.Pairwise.nil
  obtain ⟨h3, h4⟩ := putOnce_spec l
  exact strict_ext _ _ h1 h3 fun z => by rw [h2 z, h4 z]; simp
end Go.Proofs.YtbaanoomilohhaaGreatDoor
