/-
  One by one is as at once: plain lists. No statement is proved here.
-/
import Derived.Test.YtdfickppfihiiaaDoorBackPure
import Derived.Test.YtdfickppfihiiaaDoorOuts
namespace Go.Proofs.YtdfickppfihiiaaDoor
open Go.RowKit

theorem nums_nil (s : Wr) (k : Nat) : s.nums k [] = s := by
  unfold Wr.nums
  rw [if_pos (by rfl)]
  unfold Wr.lay
  split
  · rename_i h
    cases s
    simp only at h
    subst h
    simp [allBytes]
  · rfl
theorem raws_nil (s : Wr) : s.raws [] = s := by
  unfold Wr.raws Wr.lay
  split
  · rename_i h
    cases s
    simp only at h
    subst h
    simp
  · rfl
theorem nums_snoc (s : Wr) (k : Nat) (l : List Int) (x : Int) : (s.nums k l).nums k [x] = s.nums k (l ++ [x]) := by
  by_cases he : s.e = 0
  · by_cases h1 : allFit k l = true
    · by_cases h2 : fits k x = true
      · have h3 : allFit k (l ++ [x]) = true := by rw [allFit_snoc, h1, h2]; rfl
        have h4 : allFit k [x] = true := by simp [allFit, h2]
        unfold Wr.nums
        rw [if_pos h1, if_pos h4, if_pos h3, allBytes_snoc]
        unfold Wr.lay
        rw [if_pos he]
        simp [allBytes, he]
      · have h3 : ¬ allFit k (l ++ [x]) = true := by rw [allFit_snoc, h1]; simpa using h2
        have h4 : ¬ allFit k [x] = true := by simpa [allFit] using h2
        unfold Wr.nums
        rw [if_pos h1, if_neg h4, if_neg h3]
        unfold Wr.lay Wr.fail
        rw [if_pos he]
        simp [he]
    · have h3 : ¬ allFit k (l ++ [x]) = true := by rw [allFit_snoc]; simp [h1]
      unfold Wr.nums
      rw [if_neg h1, if_neg h3]
      unfold Wr.lay Wr.fail
      rw [if_pos he]
      simp
  · unfold Wr.nums Wr.lay Wr.fail
    simp [he]
theorem allShort_app (l : List ByteArray) (x : ByteArray) : allShort (l ++ [x]) = (allShort l && decide (x.size ≤ 65535)) := by simp [allShort]
theorem texts_snoc (s : Wr) (l : List ByteArray) (x : ByteArray) : (s.texts l).texts [x] = s.texts (l ++ [x]) := by
  by_cases he : s.e = 0
  · by_cases h1 : allShort l = true
    · by_cases h2 : x.size ≤ 65535
      · have h3 : allShort (l ++ [x]) = true := by rw [allShort_app, h1]; simp [h2]
        have h4 : allShort [x] = true := by simp [allShort, h2]
        unfold Wr.texts
        rw [if_pos h1, if_pos h4, if_pos h3]
        unfold Wr.lay
        rw [if_pos he]
        simp [he]
      · have h3 : ¬ allShort (l ++ [x]) = true := by rw [allShort_app, h1]; simpa using h2
        have h4 : ¬ allShort [x] = true := by simpa [allShort] using h2
        unfold Wr.texts
        rw [if_pos h1, if_neg h4, if_neg h3]
        unfold Wr.lay Wr.fail
        rw [if_pos he]
        simp [he]
    · have h3 : ¬ allShort (l ++ [x]) = true := by rw [allShort_app]; simp [h1]
      unfold Wr.texts
      rw [if_neg h1, if_neg h3]
      unfold Wr.lay Wr.fail
      rw [if_pos he]
      simp
  · unfold Wr.texts Wr.lay Wr.fail
    simp [he]
theorem len_texts (s : Wr) (l : List ByteArray) : (s.texts l).l.length ≤ s.l.length + (textsBytes l).length := by
  unfold Wr.texts; split
  · exact s.len_lay _
  · have := s.len_fail 2; omega
theorem textsBytes_bound (l : List ByteArray) (h : ∀ x ∈ l, x.size ≤ 200) : (textsBytes l).length ≤ l.length * 202 := by
  induction l with
  | nil => simp [textsBytes]
  | cons x l ih =>
    have h1 := h x (by simp)
    have h2 := ih (fun y hy => h y (by simp [hy]))
    have h3 := textBytes_len x
    simp only [textsBytes, List.flatMap_cons, List.length_append, List.length_cons] at h2 ⊢
    omega

/-- A writer stays as it is while another one is written. -/
theorem Chain.other {w w' : World} {o p : Nat} {cs : Array Value} (hp : Blk w p 44 cs) (hg : w.grownBy w' (some p)) : ∀ {r : List (Nat × ByteArray)} {q : Option Addr}, Chain w o q r → Chain w' o q r
  | [], _, h => h
  | (q, s) :: r, a, ⟨h1, h2, h3, p', h4, h5⟩ => ⟨h1, h2, h3, p', h4.grown hg (by
      intro e
      injection e with e
      subst e
      unfold Blk at hp h4
      rw [hp] at h4
      simp at h4), Chain.other hp hg h5⟩
theorem OutAt.other {w w' : World} {o p : Nat} {s s' : Wr} (h : OutAt w o s) (hp : OutAt w p s') (hg : w.grownBy w' (some p)) (hne : o ≠ p) : OutAt w' o s := by
  obtain ⟨a, r, h1, h2, h3⟩ := h
  obtain ⟨_, _, k1, _, _⟩ := hp
  exact ⟨a, r, h1.grown hg (by simpa using hne), h2.other k1 hg, h3⟩
end Go.Proofs.YtdfickppfihiiaaDoor
