/-
  What is cut off anywhere is too short: plain lists of bytes. No statement is proved here.
-/
import Derived.Test.YtdfickppfihiiaaDoorBackPure
namespace Go.Proofs.YtdfickppfihiiaaDoor

/-- Behind the error 'too few' a reader stays so. -/
theorem take_gone (e n : Int) (he : e ≠ 0) : (Rd.mk .empty e).take n = (.empty, false, ⟨.empty, e⟩) := by
  unfold Rd.take
  rw [if_pos he]
theorem num_gone (e : Int) (k : Nat) (he : e ≠ 0) : (Rd.mk .empty e).num k = (0, (⟨.empty, e⟩ : Rd)) := by
  unfold Rd.num
  rw [take_gone e k he]
  simp
theorem raw_gone (e n : Int) (he : e ≠ 0) : (Rd.mk .empty e).raw n = (.empty, (⟨.empty, e⟩ : Rd)) := by
  unfold Rd.raw
  rw [take_gone e n he]
theorem text_gone (e : Int) (he : e ≠ 0) : (Rd.mk .empty e).text = (.empty, (⟨.empty, e⟩ : Rd)) := by
  unfold Rd.text
  rw [num_gone e 2 he, raw_gone e _ he]
theorem rest_gone (e : Int) (he : e ≠ 0) : (Rd.mk .empty e).rest = false := by
  unfold Rd.rest
  simp [he]
theorem fin_gone (e : Int) (he : e ≠ 0) : (Rd.mk .empty e).fin = (e, (⟨.empty, e⟩ : Rd)) := by
  unfold Rd.fin
  rw [if_neg (by rw [rest_gone e he]; simp)]
  unfold Rd.fail
  rw [if_neg he]
theorem take_few (l : List UInt8) (n : Nat) (h : l.length < n) : (Rd.mk (bs l) 0).take n = (.empty, false, ⟨.empty, 5⟩) := by
  unfold Rd.take
  rw [if_neg (by simp), if_neg (by omega), if_pos (by simp only [bs_size]; omega)]
theorem num_few (l : List UInt8) (k : Nat) (h : l.length < k) : (Rd.mk (bs l) 0).num k = (0, (⟨.empty, 5⟩ : Rd)) := by
  unfold Rd.num
  rw [take_few l k h]
  simp
theorem raw_few (l : List UInt8) (n : Nat) (h : l.length < n) : (Rd.mk (bs l) 0).raw n = (.empty, (⟨.empty, 5⟩ : Rd)) := by
  unfold Rd.raw
  rw [take_few l n h]
/-- What the first k of such bytes read: the byte, the text, the long number. -/
theorem short_reads (a : Nat) (s : ByteArray) (b : Nat) (k : Nat) (ha : a ≤ 255) (hs : s.size ≤ 500) (hk : k < 11 + s.size) :
    ∃ (u : Int) (t : ByteArray) (r1 r2 : Rd),
      (Rd.mk (bs ((lowBytes 1 a ++ textBytes s ++ lowBytes 8 b).take k)) 0).num 1 = (u, r1) ∧ r1.text = (t, r2) ∧ r2.num 8 = (0, (⟨.empty, 5⟩ : Rd)) ∧ r1.b.size ≤ 1000 ∧ r2.b.size ≤ 1000 ∧
      (k = 0 ∨ u = a) ∧ (k < 3 + s.size ∨ t = s) := by
  have la := lowBytes_length 1 a
  have ls := textBytes_len s
  have lb := lowBytes_length 8 b
  by_cases h0 : k = 0
  · subst h0
    refine ⟨0, .empty, ⟨.empty, 5⟩, ⟨.empty, 5⟩, ?_, text_gone 5 (by decide), num_gone 5 8 (by decide), by simp, by simp, .inl rfl, .inl (by omega)⟩
    rw [List.take_zero]
    exact num_few [] 1 (by simp)
  · by_cases h1 : k < 3 + s.size
    · -- the text is cut off
      have e1 : (lowBytes 1 a ++ textBytes s ++ lowBytes 8 b).take k = lowBytes 1 a ++ (textBytes s).take (k - 1) := by
        rw [List.append_assoc, List.take_append, la, List.take_of_length_le (by omega), List.take_append, ls]
        rw [show k - 1 - (2 + s.size) = 0 by omega, List.take_zero, List.append_nil]
      rw [e1]
      refine ⟨a, .empty, ⟨bs ((textBytes s).take (k - 1)), 0⟩, ⟨.empty, 5⟩, num_bs 1 a _ (by omega) (by omega), ?_, num_gone 5 8 (by decide), by simp only [bs_size, List.length_take]; omega, by simp, .inr rfl, .inl h1⟩
      by_cases h2 : k - 1 < 2
      · unfold Rd.text
        rw [num_few _ 2 (by rw [List.length_take]; omega), raw_gone 5 _ (by decide)]
      · have e2 : (textBytes s).take (k - 1) = lowBytes 2 s.size ++ s.data.toList.take (k - 1 - 2) := by
          rw [textBytes, List.take_append, lowBytes_length, List.take_of_length_le (by rw [lowBytes_length]; omega)]
        unfold Rd.text
        rw [e2, num_bs 2 s.size _ (by omega) (by omega)]
        exact raw_few _ s.size (by rw [List.length_take]; omega)
    · have e1 : (lowBytes 1 a ++ textBytes s ++ lowBytes 8 b).take k = lowBytes 1 a ++ (textBytes s ++ (lowBytes 8 b).take (k - (3 + s.size))) := by
        rw [List.append_assoc, List.take_append, la, List.take_of_length_le (by omega), List.take_append, ls, List.take_of_length_le (by omega)]
        rw [show k - 1 - (2 + s.size) = k - (3 + s.size) by omega]
      rw [e1]
      refine ⟨a, s, ⟨bs (textBytes s ++ (lowBytes 8 b).take (k - (3 + s.size))), 0⟩, ⟨bs ((lowBytes 8 b).take (k - (3 + s.size))), 0⟩, num_bs 1 a _ (by omega) (by omega), text_bs s _ (by omega), num_few _ 8 (by rw [List.length_take]; omega), ?_, ?_, .inr rfl, .inr rfl⟩
      · simp only [bs_size, List.length_append, List.length_take]; omega
      · simp only [bs_size, List.length_take]; omega
end Go.Proofs.YtdfickppfihiiaaDoor
